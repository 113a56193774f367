import PyProof.Rows.All
import Wide.All
import OpenK.AllK
import Wide.FinOn
import Lean
import PyProof.EqAt
import PyProof.EqKinds
import PyProof.TupleCall
import PyProof.ExcInit
import PyProof.ExcBaseAll.ValueError
import PyProof.ExcAttrAll.ValueError
import PyProof.NsDelKeeps
import PyProof.NeKinds
import PyProof.DictRoadsH
import PyProof.TupleKey
import KE.KDictList
import KE.KSortKey
import KE.KLam
import KE.KNestM
import KE.KMinKey
import PyProof.AutoSeq1
import KE.KSortTup
import PySem.Challenge.RW_ropeclock_k08_the_next_moment
set_option Elab.async false
set_option linter.all false
set_option maxRecDepth 100000
/-! THE HAND LAYER, for ints, bools, texts, own classes, LISTS and tuples (index, slices, in, append, pop ..), calls, loops. Paste it whole ahead of your own text; what your proof does not reach may be deleted. -/
namespace L2
open PySem PySem.Spec PyProof.Rows

/-- a key: an int or a str -/
abbrev Key := Sum Int Str
def keyIs : Key → Value → Bool
  | .inl k, v => Value.isInt k v
  | .inr x, v => Value.isStrOf x v
def keyH (w : World) : Key → Int
  | .inl k => hashInt k
  | .inr x => hashStr w x
theorem keyIs_shape : ∀ {k : Key} {v : Value}, keyIs k v = true → (∃ i t, k = Sum.inl i ∧ v = Value.int i t) ∨ (∃ x t, k = Sum.inr x ∧ v = Value.str x t)
  | .inl i, v, h => by
    obtain ⟨t, e⟩ := Value.isInt_shape (k := i) (v := v) h
    exact .inl ⟨i, t, rfl, e⟩
  | .inr x, v, h => by
    obtain ⟨t, e⟩ := Value.isStrOf_shape (x := x) (v := v) h
    exact .inr ⟨x, t, rfl, e⟩
theorem keyIs_int (i : Int) (t : Tok) : keyIs (.inl i) (.int i t) = true := by simp [keyIs, Value.isInt]
theorem keyIs_str (x : Str) (t : Tok) : keyIs (.inr x) (.str x t) = true := by simp [keyIs, Value.isStrOf]
theorem key_ll (a b : Int) : decide ((Sum.inl a : Key) = Sum.inl b) = (a == b) := by
  by_cases e : a = b
  · subst e; simp
  · have h : ¬ (Sum.inl a : Key) = Sum.inl b := fun q => e (Sum.inl.inj q)
    rw [decide_eq_false h]
    exact (beq_eq_false_iff_ne.mpr e).symm
theorem key_rr (a b : Str) : decide ((Sum.inr a : Key) = Sum.inr b) = decide (a = b) := by
  by_cases e : a = b
  · subst e; simp
  · have h : ¬ (Sum.inr a : Key) = Sum.inr b := fun q => e (Sum.inr.inj q)
    rw [decide_eq_false h, decide_eq_false e]
theorem key_lr (a : Int) (b : Str) : decide ((Sum.inl a : Key) = Sum.inr b) = false := decide_eq_false (fun q => nomatch q)
theorem key_rl (a : Str) (b : Int) : decide ((Sum.inr a : Key) = Sum.inl b) = false := decide_eq_false (fun q => nomatch q)

def mixKind (prog : Program) (w : World) : PySem.KeyKind prog w Key where
  is := keyIs
  hash := keyH w
  inj := fun v a b ha hb => by
    rcases keyIs_shape ha with ⟨i, t, rfl, rfl⟩ | ⟨x, t, rfl, rfl⟩
    · rcases keyIs_shape hb with ⟨j, u, rfl, e⟩ | ⟨y, u, rfl, e⟩
      · injection e with e1 _; rw [e1]
      · exact nomatch e
    · rcases keyIs_shape hb with ⟨j, u, rfl, e⟩ | ⟨y, u, rfl, e⟩
      · exact nomatch e
      · injection e with e1 _; rw [e1]
  byValue := fun k v h => by
    rcases keyIs_shape h with ⟨i, t, rfl, rfl⟩ | ⟨x, t, rfl, rfl⟩ <;> rfl
  pyHash := fun hv h => by
    rcases keyIs_shape hv with ⟨i, t, rfl, rfl⟩ | ⟨x, t, rfl, rfl⟩
    · exact wpAny_pyHash_int h
    · exact wpAny_pyHash_str h
  eqBool := fun hu hv h => by
    rcases keyIs_shape hu with ⟨i, t, rfl, rfl⟩ | ⟨x, t, rfl, rfl⟩
    · rcases keyIs_shape hv with ⟨j, u, rfl, rfl⟩ | ⟨y, u, rfl, rfl⟩
      · rw [key_ll] at h; exact wpAny_eqBool_int h
      · rw [key_lr] at h; exact SeqAt.EqAt.int_str i t y u _ _ _ _ h
    · rcases keyIs_shape hv with ⟨j, u, rfl, rfl⟩ | ⟨y, u, rfl, rfl⟩
      · rw [key_rl] at h; exact SeqAt.EqAt.str_int x t j u _ _ _ _ h
      · rw [key_rr] at h; exact wpAny_eqBool_str h
  «strs» := fun k x t v h => by
    rcases keyIs_shape h with ⟨i, u, rfl, e⟩ | ⟨y, u, rfl, e⟩
    · exact nomatch e
    · injection e with e1 _
      subst e1
      cases v <;> rfl

theorem mixKind_is (prog : Program) (w : World) (k : Key) (v : Value) : (mixKind prog w).is k v = keyIs k v := rfl
theorem mixKind_int (prog : Program) (w : World) (i : Int) (t : Tok) : (mixKind prog w).is (.inl i) (.int i t) = true := keyIs_int i t
theorem mixKind_str (prog : Program) (w : World) (x : Str) (t : Tok) : (mixKind prog w).is (.inr x) (.str x t) = true := keyIs_str x t
end L2

namespace L2
open PySem PySem.Spec PyProof.Rows

/-- a value, without the heap -/
inductive V where
  | non | bl (b : Bool) | int (i : Int) | str (x : Str) | byt (b : Array UInt8) | flt (b : UInt64) | ref (a : Addr) | ty (n : String)
  deriving DecidableEq

def RelV : V → Value → Prop
  | .non, u => u = Value.none
  | .bl b, u => u = Value.bool b
  | .int i, u => ∃ t, u = Value.int i t
  | .str x, u => ∃ t, u = Value.str x t
  | .byt b, u => ∃ t, u = Value.bytes b t
  | .flt b, u => ∃ t, u = Value.float b t
  | .ref a, u => u = Value.ref a
  | .ty n, u => u = Value.type n

abbrev Vals : List V → List Value → Prop := Paired RelV
theorem Vals.length {xs : List V} {us : List Value} (r : Vals xs us) : xs.length = us.length := Paired.length r
theorem Vals.get : ∀ {xs : List V} {us : List Value} {i : Nat} {x : V}, Vals xs us → xs[i]? = some x → ∃ u, us[i]? = some u ∧ RelV x u
  | _, _, _, _, .nil, e => by simp at e
  | _, _, 0, _, .cons r _, e => by simp at e; subst e; exact ⟨_, rfl, r⟩
  | _, _, i + 1, x, .cons _ t, e => by
    obtain ⟨u, h1, h2⟩ := Vals.get (i := i) (x := x) t (by simpa using e)
    exact ⟨u, by simpa using h1, h2⟩
theorem Vals.set {x : V} {u : Value} (r : RelV x u) : ∀ {xs : List V} {us : List Value} (i : Nat), Vals xs us → Vals (xs.set i x) (us.set i u)
  | _, _, _, .nil => .nil
  | _, _, 0, .cons _ t => .cons r t
  | _, _, i + 1, .cons q t => .cons q (Vals.set r i t)
theorem Vals.append : ∀ {xs ys : List V} {us ws : List Value}, Vals xs us → Vals ys ws → Vals (xs ++ ys) (us ++ ws)
  | _, _, _, _, .nil, s => s
  | _, _, _, _, .cons r t, s => .cons r (Vals.append t s)
theorem Vals.take : ∀ {xs : List V} {us : List Value} (n : Nat), Vals xs us → Vals (xs.take n) (us.take n)
  | _, _, 0, _ => .nil
  | _, _, _ + 1, .nil => .nil
  | _, _, n + 1, .cons r t => .cons r (Vals.take n t)
theorem Vals.drop : ∀ {xs : List V} {us : List Value} (n : Nat), Vals xs us → Vals (xs.drop n) (us.drop n)
  | _, _, 0, r => r
  | _, _, _ + 1, .nil => .nil
  | _, _, n + 1, .cons _ t => Vals.drop n t
theorem Vals.none_of : ∀ {xs : List V} {us : List Value} {i : Nat}, Vals xs us → xs[i]? = none → us[i]? = none := fun {xs us i} r e => by
  have h1 := r.length
  have h2 : xs.length ≤ i := List.getElem?_eq_none_iff.mp e
  exact List.getElem?_eq_none_iff.mpr (by omega)

def RelO : Option V → Option Value → Prop
  | some v, some u => RelV v u
  | none, none => True
  | _, _ => False
def KV {κ : Type} : List (κ × V) → List (κ × Value) → Prop := Paired fun (p : κ × V) (q : κ × Value) => p.1 = q.1 ∧ RelV p.2 q.2

/-- a key of a dict (00_mix): an int or a text -/
def kV : Key → V
  | .inl i => .int i
  | .inr x => .str x

/-- what stands at a tracked address -/
inductive HO where
  /-- a list -/
  | lst (xs : List V)
  /-- a tuple (never changes) -/
  | tup (xs : List V)
  /-- a dict whose keys are ints and texts; one whose keys are tuples of ints and texts (the empty one is both) -/
  | dK (kvs : List (Key × V)) | dT (kvs : List (List Key × V))
  /-- a set of ints: its members, its size -/
  | set (S : Int → Bool) (n : Nat)
  /-- an instance of the class at C, its dict at dx, its attributes -/
  | ins (C dx : Addr) (fs : List (Str × V))
  /-- the dict of the instance at x -/
  | own (x : Addr)
  /-- the dict of an exception -/
  | xd (fs : List (Str × V))
  /-- a bound method, f of x -/
  | met (f x : Addr)
  /-- a range object lo, lo + 1, .. below hi -/
  | rng (lo hi : Int)
  /-- a thing that is known to the object (the script; a dict while a loop walks it): read, never written while it is so -/
  | frz (o : Obj) (u : HO)
  /-- a code object's table -/
  | tbl (ps : Array Value)
  /-- any other thing, by what is true of its one object (a def of one's own: SetO a S n := HO.ext fun h => ..) -/
  | ext (φ : Heap → Prop)

abbrev Hp := Addr → Option HO
def upd (H : Hp) (a : Addr) (o : HO) : Hp := fun b => if b = a then some o else H b
theorem upd_same {H : Hp} {a : Addr} {o : HO} : upd H a o a = some o := by unfold upd; rw [if_pos rfl]
theorem upd_ne {H : Hp} {a b : Addr} {o : HO} (h : b ≠ a) : upd H a o b = H b := by unfold upd; rw [if_neg h]
theorem upd_upd {H : Hp} {a : Addr} {o u : HO} : upd (upd H a o) a u = upd H a u := by
  funext b; unfold upd; split <;> rfl
/-- two objects of different content stand apart -/
theorem ne_of {H : Hp} {a b : Addr} {o u : HO} (h : H a = some o) (h' : H b = some u) (d : o ≠ u) : a ≠ b := by
  intro e; subst e; rw [h] at h'; exact d (Option.some.inj h')
theorem ne_of_none {H : Hp} {a b : Addr} {o : HO} (h : H a = some o) (h' : H b = none) : a ≠ b := by
  intro e; subst e; rw [h] at h'; cases h'

section
variable (P : Program) (w : World)
def ObjOk (H : Hp) (h : Heap) (a : Addr) : HO → Prop
  | .lst xs => xs.length ≤ sizeLine ∧ ∃ (its : List Value) (n : Nat), Vals xs its ∧ h.get? a = some { cls := .type "list", data := .seq its.toArray n }
  | .tup xs => xs.length ≤ sizeLine ∧ ∃ its : List Value, Vals xs its ∧ IsTup h a its.toArray
  | .dK kvs => kvs.length ≤ sizeLine ∧ (a == sysModules) = false ∧ ∃ vs, KV kvs vs ∧ h.DictOf (mixKind P w) a vs
  | .dT kvs => kvs.length ≤ sizeLine ∧ (a == sysModules) = false ∧ ∃ xs : List (List Key × Addr × Value),
      Paired (fun (p : List Key × V) (q : List Key × Addr × Value) => p.1 = q.1 ∧ H q.2.1 = some (.tup (p.1.map kV)) ∧ RelV p.2 q.2.2) kvs xs ∧
      ∃ o es ep, h.get? a = some o ∧ o.ExactDict ∧ o.data = .dict es ep ∧ es.toList = xs.map (entryOfKey (tupleKind (mixKind P w))) ∧ (xs.map (·.1)).Nodup
  | .set S n => h.SetOf (intKind P w) a S n
  | .ins C dx fs => H dx = some (.own a) ∧ fs.length ≤ 1000 ∧ dx ≠ a ∧ h.get? a = some (PySem.W.instObj C dx) ∧
      ∃ mA, h.Ns1 dx mA ∧ (∀ f, RelO (fs.lookup f) (mA f)) ∧ PySem.Within mA (fs.map (·.1))
  | .own _ => ∃ o, h.get? a = some o
  | .xd fs => ∃ mA, h.Ns1 a mA ∧ ∀ f, RelO (fs.lookup f) (mA f)
  | .rng lo hi => ∃ t u v, h.get? a = some { cls := .type "range", data := .fields #[.int lo t, .int hi u, .int 1 v] }
  | .frz o u => h.get? a = some o ∧ ObjOk H h a u
  | .tbl ps => h.get? a = some { cls := .none, data := .fields ps }
  | .met f x => h.get? a = some (PySem.W.methodObj (.ref f) (.ref x))
  | .ext φ => φ h ∧ (∃ o, h.get? a = some o) ∧ ∀ h1 h2 : Heap, φ h1 → (∀ o, h1.get? a = some o → h2.get? a = some o) → φ h2
/-- the abstract heap is held -/
def HOk (H : Hp) (h : Heap) : Prop := ∀ a o, H a = some o → ObjOk P w H h a o
end

section
variable {P : Program} {w : World} {H H' : Hp} {h h' : Heap} {a : Addr} {o : HO}
theorem ObjOk.lt (x : ObjOk P w H h a o) : a < h.objs.size := by
  cases o with
  | lst xs => obtain ⟨_, _, _, _, e⟩ := x; exact Heap.lt_size e
  | tup xs => obtain ⟨_, _, _, p⟩ := x; exact p.lt
  | dK kvs => obtain ⟨_, _, _, _, o, _, _, e, _⟩ := x; exact Heap.lt_size e
  | dT kvs => obtain ⟨_, _, _, _, o, _, _, e, _⟩ := x; exact Heap.lt_size e
  | set S n => obtain ⟨o, _, _, _, e, _⟩ := x; exact Heap.lt_size e
  | ins C dx fs => obtain ⟨_, _, _, e, _⟩ := x; exact Heap.lt_size e
  | own y => obtain ⟨_, e⟩ := x; exact Heap.lt_size e
  | xd fs => obtain ⟨_, ⟨_, _, _, e, _⟩, _⟩ := x; exact Heap.lt_size e
  | rng lo hi => obtain ⟨_, _, _, e⟩ := x; exact Heap.lt_size e
  | frz ob u => obtain ⟨e, _⟩ := x; exact Heap.lt_size e
  | tbl ps => exact Heap.lt_size (show h.get? a = some _ from x)
  | met f y => exact Heap.lt_size (show h.get? a = some _ from x)
  | ext φ => obtain ⟨_, ⟨_, e⟩, _⟩ := x; exact Heap.lt_size e
theorem Paired.mapP {α β : Type} {F G : α → β → Prop} : ∀ {l₁ : List α} {l₂ : List β}, Paired F l₁ l₂ → (∀ a b, F a b → G a b) → Paired G l₁ l₂
  | _, _, .nil, _ => .nil
  | _, _, .cons r t, f => .cons (f _ _ r) (Paired.mapP t f)
theorem Paired.imp' {α β : Type} {F G : α → β → Prop} (f : ∀ a b, F a b → G a b) {l₁ : List α} {l₂ : List β} (r : Paired F l₁ l₂) : Paired G l₁ l₂ := Paired.mapP r f
/-- what an object's description leans on: its own object, its own dict, the tuples -/
theorem ObjOk.stay (x : ObjOk P w H h a o) (k : ∀ b u, (b = a ∨ H b = some (.own a)) → h.get? b = some u → h'.get? b = some u)
    (ho : ∀ b, H b = some (.own a) → H' b = some (.own a)) (ht : ∀ b xs, H b = some (.tup xs) → H' b = some (.tup xs)) : ObjOk P w H' h' a o := by
  induction o with
  | lst xs => obtain ⟨z, its, n, r, e⟩ := x; exact ⟨z, its, n, r, k _ _ (.inl rfl) e⟩
  | tup xs => obtain ⟨z, its, r, ob, e, c⟩ := x; exact ⟨z, its, r, ob, k _ _ (.inl rfl) e, c⟩
  | dK kvs => obtain ⟨z, y, vs, r, ob, es, ep, e, c⟩ := x; exact ⟨z, y, vs, r, ob, es, ep, k _ _ (.inl rfl) e, c⟩
  | dT kvs =>
    obtain ⟨z, y, xs, r, ob, es, ep, e, c⟩ := x
    exact ⟨z, y, xs, Paired.mapP r fun p q z => ⟨z.1, ht _ _ z.2.1, z.2.2⟩, ob, es, ep, k _ _ (.inl rfl) e, c⟩
  | set S n => obtain ⟨ob, es, ep, t, e, c⟩ := x; exact ⟨ob, es, ep, t, k _ _ (.inl rfl) e, c⟩
  | ins C dx fs =>
    obtain ⟨d, z, ne, e, mA, ⟨od, es, ep, e2, c⟩, r⟩ := x
    exact ⟨ho _ d, z, ne, k _ _ (.inl rfl) e, mA, ⟨od, es, ep, k _ _ (.inr d) e2, c⟩, r⟩
  | own y => obtain ⟨ob, e⟩ := x; exact ⟨ob, k _ _ (.inl rfl) e⟩
  | xd fs => obtain ⟨mA, ⟨od, es, ep, e, c⟩, r⟩ := x; exact ⟨mA, ⟨od, es, ep, k _ _ (.inl rfl) e, c⟩, r⟩
  | rng lo hi => obtain ⟨t, u, v, e⟩ := x; exact ⟨t, u, v, k _ _ (.inl rfl) e⟩
  | frz ob u ih => obtain ⟨e, q⟩ := x; exact ⟨k _ _ (.inl rfl) e, ih q⟩
  | tbl ps =>
    have e : h.get? a = some { cls := .none, data := .fields ps } := x
    show h'.get? a = some { cls := .none, data := .fields ps }
    exact k a _ (.inl rfl) e
  | met f y =>
    have e : h.get? a = some (PySem.W.methodObj (.ref f) (.ref y)) := x
    show h'.get? a = some (PySem.W.methodObj (.ref f) (.ref y))
    exact k a _ (.inl rfl) e
  | ext φ => obtain ⟨p, ⟨o, e⟩, st⟩ := x; exact ⟨st _ _ p fun o q => k _ _ (.inl rfl) q, ⟨o, k _ _ (.inl rfl) e⟩, st⟩
theorem HOk.lt (x : HOk P w H h) (e : H a = some o) : a < h.objs.size := (x a o e).lt
theorem HOk.fresh (x : HOk P w H h) (e : h.objs.size ≤ a) : H a = none := by
  cases q : H a with
  | none => rfl
  | some u => exact absurd (Nat.lt_of_lt_of_le (x.lt q) e) (Nat.lt_irrefl _)
/-- every object of the heap is kept -/
theorem HOk.kept (x : HOk P w H h) (k : ∀ b u, h.get? b = some u → h'.get? b = some u) : HOk P w H h' := fun a o e =>
  (x a o e).stay (fun b u _ q => k b u q) (fun _ q => q) fun _ _ q => q
/-- a new object is laid and tracked -/
theorem HOk.laid (x : HOk P w H h) (k : ∀ b u, h.get? b = some u → h'.get? b = some u) (hp : h.objs.size ≤ a) (new : ObjOk P w (upd H a o) h' a o) : HOk P w (upd H a o) h' := fun b u e => by
  have hn := x.fresh hp
  by_cases hb : b = a
  · subst hb; rw [upd_same] at e; cases e; exact new
  · rw [upd_ne hb] at e
    exact (x b u e).stay (fun c v _ q => k c v q) (fun c q => by rw [upd_ne (ne_of_none q hn)]; exact q) fun c xs q => by rw [upd_ne (ne_of_none q hn)]; exact q
end

/-- what may be read as u: it is u, or a known u -/
def Rd (H : Hp) (a : Addr) (u : HO) : Prop := H a = some u ∨ ∃ o, H a = some (.frz o u)
theorem Rd.of {H : Hp} {a : Addr} {u : HO} (h : H a = some u) : Rd H a u := .inl h
theorem Rd.ok {P : Program} {w : World} {H : Hp} {h : Heap} {a : Addr} {u : HO} (r : Rd H a u) (x : HOk P w H h) : ObjOk P w H h a u := by
  rcases r with r | ⟨o, r⟩
  · exact x a u r
  · obtain ⟨_, q⟩ := x a _ r
    exact q
/-- what may be written -/
def Mut : Option HO → Prop
  | some (.lst _) => True
  | some (.dK _) => True
  | some (.dT _) => True
  | some (.set _ _) => True
  | some (.ins _ _ _) => True
  | some (.ext _) => True
  | _ => False
section
variable {P : Program} {w : World} {H : Hp} {h h' : Heap} {x e : Addr} {o' : HO}
/-- the object at e is changed: x itself, or the dict of the instance x -/
theorem HOk.write (ok : HOk P w H h) (mu : Mut (H x)) (he : e = x ∨ H e = some (.own x)) (k : ∀ b u, b ≠ e → h.get? b = some u → h'.get? b = some u) (heo : ∃ u, h'.get? e = some u)
    (new : ObjOk P w (upd H x o') h' x o') : HOk P w (upd H x o') h' := fun b u q => by
  have nown : ∀ c y, H c = some (.own y) → c ≠ x := fun c y r z => by subst z; rw [r] at mu; exact mu
  have ntup : ∀ c xs, H c = some (.tup xs) → c ≠ x := fun c xs r z => by subst z; rw [r] at mu; exact mu
  by_cases hb : b = x
  · subst hb; rw [upd_same] at q; cases q; exact new
  · rw [upd_ne hb] at q
    by_cases hbe : b = e
    · have q' : H b = some (.own x) := by
        rcases he with z | z
        · exact absurd (hbe.trans z) hb
        · rw [hbe]; exact z
      rw [q] at q'; cases q'
      obtain ⟨v, hv⟩ := heo
      exact ⟨v, by rw [hbe]; exact hv⟩
    · refine (ok b u q).stay (fun c v hc r => k c v ?_ r) (fun c r => by rw [upd_ne (nown c b r)]; exact r) fun c xs r => by rw [upd_ne (ntup c xs r)]; exact r
      rcases hc with rfl | hc
      · exact hbe
      · rintro rfl
        rcases he with z | z
        · exact nown c b hc z
        · rw [hc] at z; cases z; exact hb rfl
end

/-! ### kept unless tracked; of the frames at fs (the callers') the slots may change (an exception that passes writes there); of the records at ex (iterators) nothing is said -/
structure Un (fs ex : List Addr) (H H' : Hp) (h h' : Heap) : Prop where
  keep : ∀ b o, h.get? b = some o → H b = none → b ∉ fs → b ∉ ex → h'.get? b = some o
  slot : ∀ b o, h.get? b = some o → H b = none → b ∈ fs → b ∉ ex → ∃ sl, h'.get? b = some { o with slots := sl }
  free : ∀ b o, h.get? b = some o → H b = none → b ∉ ex → H' b = none
  there : ∀ b o, h.get? b = some o → b ∉ ex → ∃ o', h'.get? b = some o'
  tups : ∀ b xs, H b = some (.tup xs) → H' b = some (.tup xs)
  frzs : ∀ b o u, H b = some (.frz o u) → H' b = some (.frz o u)
  tbls : ∀ b ps, H b = some (.tbl ps) → ∃ more, H' b = some (.tbl (ps ++ more))
section
variable {fs fs' ex ex' : List Addr} {H H1 H2 : Hp} {h h1 h2 h' : Heap} {a x e : Addr} {o : HO}
theorem Un.any (u : Un fs ex H H1 h h1) {b : Addr} {ob : Obj} (q : h.get? b = some ob) (n : H b = none) (hx : b ∉ ex) : ∃ sl, h1.get? b = some { ob with slots := sl } := by
  by_cases hb : b ∈ fs
  · exact u.slot b ob q n hb hx
  · exact ⟨ob.slots, u.keep b ob q n hb hx⟩
theorem Un.trans (a : Un fs ex H H1 h h1) (b : Un fs ex H1 H2 h1 h2) : Un fs ex H H2 h h2 where
  keep := fun c ob q n hc hx => b.keep c ob (a.keep c ob q n hc hx) (a.free c ob q n hx) hc hx
  slot := fun c ob q n hc hx => by
    obtain ⟨sl, e1⟩ := a.slot c ob q n hc hx
    obtain ⟨sl', e2⟩ := b.slot c _ e1 (a.free c ob q n hx) hc hx
    exact ⟨sl', e2⟩
  free := fun c ob q n hx => by
    obtain ⟨o', e1⟩ := a.there c ob q hx
    exact b.free c o' e1 (a.free c ob q n hx) hx
  there := fun c ob q hx => by
    obtain ⟨o', e1⟩ := a.there c ob q hx
    exact b.there c o' e1 hx
  tups := fun c xs q => b.tups c xs (a.tups c xs q)
  frzs := fun c ob xs q => b.frzs c ob xs (a.frzs c ob xs q)
  tbls := fun c ps q => by
    obtain ⟨m1, e1⟩ := a.tbls c ps q
    obtain ⟨m2, e2⟩ := b.tbls c _ e1
    exact ⟨m1 ++ m2, by rw [e2, Array.append_assoc]⟩
theorem Un.kept (k : ∀ b u, h.get? b = some u → h'.get? b = some u) : Un fs ex H H h h' :=
  ⟨fun b ob q _ _ _ => k b ob q, fun b ob q _ _ _ => ⟨ob.slots, k b ob q⟩, fun _ _ _ n _ => n, fun b ob q _ => ⟨ob, k b ob q⟩, fun _ _ q => q, fun _ _ _ q => q, fun _ ps q => ⟨#[], by rw [q]; simp⟩⟩
theorem Un.refl : Un fs ex H H h h := Un.kept fun _ _ q => q
theorem Un.laid (k : ∀ b u, h.get? b = some u → h'.get? b = some u) (hp : h.objs.size ≤ a) (hn : H a = none) : Un fs ex H (upd H a o) h h' where
  keep := fun b u q _ _ _ => k b u q
  slot := fun b u q _ _ _ => ⟨u.slots, k b u q⟩
  free := fun b u q n _ => by rw [upd_ne (Nat.ne_of_lt (Nat.lt_of_lt_of_le (Heap.lt_size q) hp))]; exact n
  there := fun b u q _ => ⟨u, k b u q⟩
  tups := fun b xs q => by rw [upd_ne (ne_of_none q hn)]; exact q
  frzs := fun b u xs q => by rw [upd_ne (ne_of_none q hn)]; exact q
  tbls := fun b ps q => ⟨#[], by rw [upd_ne (ne_of_none q hn), q]; simp⟩
theorem Un.write (mu : Mut (H x)) (he : e = x ∨ H e = some (.own x)) (k : ∀ b u, b ≠ e → h.get? b = some u → h'.get? b = some u) (heo : ∃ u, h'.get? e = some u) : Un fs ex H (upd H x o) h h' := by
  have hx : ∀ b, H b = none → b ≠ x := fun b n z => by subst z; rw [n] at mu; exact mu
  have hb : ∀ b, H b = none → b ≠ e := fun b n z => by
    subst z
    rcases he with r | r
    · exact hx b n r
    · rw [n] at r; cases r
  have hm : ∀ b u, H b = some u → ¬ Mut (some u) → b ≠ x := fun b u q nm z => by subst z; rw [q] at mu; exact nm mu
  refine ⟨fun b u q n _ _ => k b u (hb b n) q, fun b u q n _ _ => ⟨u.slots, k b u (hb b n) q⟩, fun b u q n _ => by rw [upd_ne (hx b n)]; exact n, fun b u q _ => ?_,
    fun b xs q => by rw [upd_ne (hm b _ q fun z => z)]; exact q, fun b u xs q => by rw [upd_ne (hm b _ q fun z => z)]; exact q, fun b ps q => ⟨#[], by rw [upd_ne (hm b _ q fun z => z), q]; simp⟩⟩
  by_cases hbe : b = e
  · subst hbe; exact heo
  · exact ⟨u, k b u hbe q⟩
theorem Un.mono (u : Un fs ex H H1 h h1) (hs : ∀ b ∈ fs, b ∈ fs') (hx : ∀ b ∈ ex, b ∈ ex') : Un fs' ex' H H1 h h1 :=
  ⟨fun b ob q n hb he => u.keep b ob q n (fun z => hb (hs b z)) fun z => he (hx b z), fun _ _ q n _ he => u.any q n fun z => he (hx _ z), fun b ob q n he => u.free b ob q n fun z => he (hx b z), fun b ob q he => u.there b ob q fun z => he (hx b z), u.tups, u.frzs, u.tbls⟩
end

/-! ### the heap without what is tracked -/
def trk (h : Heap) (H : Hp) : List Addr := (List.range h.objs.size).filter fun a => (H a).isSome
def hidT (h : Heap) (H : Hp) : Heap := PySem.W.hideAll h (trk h H)
theorem hidT_size (h : Heap) (H : Hp) : (hidT h H).objs.size = h.objs.size := PySem.W.hideAll_size _ _
theorem hidT_get {h : Heap} {H : Hp} {b : Addr} {o : Obj} (e : h.get? b = some o) (n : H b = none) : (hidT h H).get? b = some o :=
  PySem.W.hideAll_get _ e fun hm => by
    have q : (H b).isSome = true := (List.mem_filter.mp hm).2
    rw [n] at q; simp at q
theorem of_hidT {h : Heap} {H : Hp} {b : Addr} {o : Obj} (e : (hidT h H).get? b = some o) : h.get? b = some o ∧ H b = none := by
  have e' : h.get? b = some o := PySem.W.of_hideAll (trk h H) e
  refine ⟨e', ?_⟩
  cases q : H b with
  | none => rfl
  | some x =>
    have hm : b ∈ trk h H := List.mem_filter.mpr ⟨List.mem_range.mpr (Heap.lt_size e'), by simp [q]⟩
    have z : (hidT h H).get? b = none := PySem.W.hideAll_none (trk h H) hm
    rw [z] at e; cases e

/-! ### OpenK's ledger, filled with every new object but one -/
def allNews (g h : Heap) (L : Addr) : List (Addr × Obj) := (List.range h.objs.size).filterMap fun a => if a = L ∨ (g.get? a).isSome = true then none else (h.get? a).map fun o => (a, o)
theorem mem_allNews {g h : Heap} {L a : Addr} {o : Obj} (h1 : a ≠ L) (h2 : g.get? a = none) (h3 : h.get? a = some o) : (a, o) ∈ allNews g h L :=
  List.mem_filterMap.mpr ⟨a, List.mem_range.mpr (Heap.lt_size h3), by simp [h1, h2, h3]⟩
theorem of_mem_allNews {g h : Heap} {L : Addr} {p : Addr × Obj} (hp : p ∈ allNews g h L) : p.1 ≠ L ∧ g.get? p.1 = none ∧ h.get? p.1 = some p.2 := by
  obtain ⟨b, _, e⟩ := List.mem_filterMap.mp hp
  split at e
  · cases e
  · rename_i hn
    cases q : h.get? b with
    | none => rw [q] at e; simp at e
    | some u =>
      rw [q] at e
      simp only [Option.map_some, Option.some.injEq] at e
      subst e
      refine ⟨fun z => hn (.inl z), ?_, q⟩
      show g.get? b = none
      cases r : g.get? b with
      | none => rfl
      | some v => exact (hn (.inr (by simp [r]))).elim
def rest (g h : Heap) (L d : Addr) : List (Addr × Obj) := (allNews g h L).filter fun p => decide (p.1 ≠ d)
theorem rest_ne {g h : Heap} {L d : Addr} : ∀ p ∈ rest g h L d, p.1 ≠ d := fun p hp => of_decide_eq_true (List.mem_filter.mp hp).2
theorem mem_rest {g h : Heap} {L d a : Addr} {o : Obj} (h1 : a ≠ L) (h2 : g.get? a = none) (h3 : h.get? a = some o) (h4 : a ≠ d) : (a, o) ∈ rest g h L d :=
  List.mem_filter.mpr ⟨mem_allNews h1 h2 h3, decide_eq_true h4⟩
theorem news_all {g h : Heap} {L : Addr} : News g L h (allNews g h L) := fun p hp => let ⟨a, b, c⟩ := of_mem_allNews hp; ⟨c, a, b⟩
theorem news_at {g h : Heap} {L d : Addr} {o : Obj} (h1 : d ≠ L) (h2 : g.get? d = none) (h3 : h.get? d = some o) : News g L h ((d, o) :: rest g h L d) := fun p hp => by
  rcases List.mem_cons.mp hp with rfl | hp
  · exact ⟨h3, h1, h2⟩
  · exact news_all p (List.mem_filter.mp hp).1
/-- behind a rule that changed d alone: all else but the frame is kept -/
theorem kept_of_news {g h h' : Heap} {L d : Addr} {m : Str → Option Value} (k : ∀ b o, g.get? b = some o → h.get? b = some o) (F : Fr g L h' m) (N : News g L h' (rest g h L d)) :
    ∀ b o, b ≠ L → b ≠ d → h.get? b = some o → h'.get? b = some o := fun b o h1 h2 e => by
  cases q : g.get? b with
  | some u =>
    have := k b u q
    rw [e] at this; cases this
    exact F.keep b _ q
  | none => exact (N (b, o) (mem_rest h1 q e h2)).1
end L2

namespace L2
open PySem PySem.Spec PyProof.Rows

/-- the module's facts, over the base: the heap at the law's entry without what is tracked there -/
structure Mod (K : PySem.W.Frag) (mg : Str → Option Value) (base : Heap) : Prop where
  kin : K.In base
  glob : base.Ns mainGlobals mg
  blt : ∃ mb, base.Ns builtinsNs mb ∧ ∀ x : Str, x ≠ "__name__" → mb x = bootBuiltins x
  nolimit : base.NoLimit

/-- the context: a def's body (or a comprehension's block) running. base: fixed through the whole law; s₀, H₀: the entry; outer: the frames whose slots others may change (a def's callers); stack: all frames that run;
   ex: iterators that were made ahead of the entry and are walked here (a comprehension's); fn: the names whose cells were made at the entry (a def: all; a comprehension's block: its own); calm: not within an except suite; pn: pins that every state bears; xe: what is wanted of an exception that leaves the code -/
structure Cx where
  prog : Program
  w : World
  K : PySem.W.Frag
  mg : Str → Option Value
  base : Heap
  A : Around
  N : List Str
  s₀ : Shared
  H₀ : Hp
  env : Env
  outer : List Env
  stack : List Env
  ex : List Addr
  fn : Str → Bool
  calm : Bool
  pn : List (Addr × Obj)
  xe : Value → Shared → Prop
/-- the callers' frames -/
def frs (l : List Env) : List Addr := l.filterMap (·.frame)
abbrev Cx.fs (X : Cx) : List Addr := frs X.outer

def Vis (sc : Scope) (x : Str) : Prop := sc.names.lookup x = some .local ∨ sc.names.lookup x = some .cell ∨ sc.names.lookup x = some .free
def Loc (sc : Scope) (x : Str) : Prop := sc.names.lookup x = some .local ∨ sc.names.lookup x = some .cell
def Look (env : Env) (h : Heap) (m : Str → Option Value) (x : Str) (u : Value) : Prop :=
  (env.kindOf x = some .local ∧ m x = some u) ∨ ((env.kindOf x = some .cell ∨ env.kindOf x = some .free) ∧ ∃ c, env.cells.lookup x = some c ∧ h.IsCell c (some u))

structure Cx.Ok (X : Cx) : Prop where
  mod : Mod X.K X.mg X.base
  kind : X.env.scope.kind = .function
  glob : X.env.globals = mainGlobals
  blt : X.env.builtins = builtinsNs
  above : X.s₀.heap.objs.size ≤ X.env.locals
  inj : ∀ x y c, X.env.cells.lookup x = some c → X.env.cells.lookup y = some c → x = y
  has : ∀ x, (X.env.kindOf x = some .cell ∨ X.env.kindOf x = some .free) → ∃ c, X.env.cells.lookup x = some c
  cab : ∀ x c, X.fn x = true → X.env.cells.lookup x = some c → X.s₀.heap.objs.size ≤ c
  hd : X.calm = true → X.A.handled = none
  frames : X.A.frames = some X.stack
  stk : X.stack = X.outer ∨ (X.stack = X.env :: X.outer ∧ X.env.frame = some X.env.locals)
  exf : ∀ b ∈ X.ex, b ≠ X.env.locals ∧ ∀ x c, X.env.cells.lookup x = some c → c ≠ b
  bs : ∀ b o, X.base.get? b = some o → X.s₀.heap.get? b = some o ∧ X.H₀ b = none
  bsz : X.base.objs.size ≤ X.s₀.heap.objs.size
  noex : ∀ b o, X.base.get? b = some o → b ∉ X.ex
  exfs : ∀ b ∈ X.ex, b ∉ X.fs
  funs : X.s₀.heap.FunFrames X.base X.outer
  frf : ∀ b ∈ X.fs, X.H₀ b = none

structure Inv (X : Cx) (pins : List (Addr × Obj)) (σ : List (Option V)) (H : Hp) (s : Shared) : Prop where
  ok : X.Ok
  os : s.os = X.s₀.os
  bare : AllBare s.gens
  base : Un X.fs X.ex X.H₀ H X.s₀.heap s.heap
  loc : ∃ m, s.heap.Ns X.env.locals m ∧ ∀ (i : Nat) (x : Str) (v : V), X.N[i]? = some x → σ[i]? = some (some v) → Vis X.env.scope x → ∃ u, RelV v u ∧ Look X.env s.heap m x u
  cell : ∀ x c, X.env.cells.lookup x = some c → ∃ v, s.heap.IsCell c v
  free : H X.env.locals = none
  freeC : ∀ x c, X.env.cells.lookup x = some c → H c = none
  pin : ∀ p ∈ X.pn ++ pins, s.heap.get? p.1 = some p.2 ∧ H p.1 = none ∧ p.1 ≠ X.env.locals ∧ p.1 ∉ X.fs ∧ ∀ v, p.2.data ≠ .cell v
  hok : HOk X.prog X.w H s.heap
  len : σ.length = X.N.length

section
variable {X : Cx} {pins : List (Addr × Obj)} {σ : List (Option V)} {H H' : Hp} {s : Shared} {h' : Heap}

theorem Cx.Ok.nofr (ok : X.Ok) {b : Addr} {o : Obj} (e : X.base.get? b = some o) : b ∉ X.fs := fun hb => by
  have := (ok.funs.mem hb).1
  rw [e] at this; cases this
theorem Inv.bs (I : Inv X pins σ H s) : ∀ b o, X.base.get? b = some o → s.heap.get? b = some o ∧ H b = none := fun b o e =>
  ⟨I.base.keep b o (I.ok.bs b o e).1 (I.ok.bs b o e).2 (I.ok.nofr e) (I.ok.noex b o e), I.base.free b o (I.ok.bs b o e).1 (I.ok.bs b o e).2 (I.ok.noex b o e)⟩
theorem Inv.bk (I : Inv X pins σ H s) : ∀ b o, X.base.get? b = some o → s.heap.get? b = some o := fun b o e => (I.bs b o e).1
theorem Inv.mod (I : Inv X pins σ H s) : Mod X.K X.mg X.base := I.ok.mod
theorem Inv.kIn (I : Inv X pins σ H s) : X.K.In s.heap := I.ok.mod.kin.keeps I.bk
theorem Inv.nolimit (I : Inv X pins σ H s) : s.heap.NoLimit := I.ok.mod.nolimit.keeps I.bk
/-- the frame over the base: for OpenK's rules (K.In X.base is I.mod.kin) -/
theorem Inv.fr (I : Inv X pins σ H s) : ∃ m, Fr X.base X.env.locals s.heap m :=
  let ⟨m, hn, _⟩ := I.loc
  ⟨m, hn, I.bk, Nat.le_trans I.ok.bsz I.ok.above⟩
theorem Inv.lt (I : Inv X pins σ H s) : X.env.locals < s.heap.objs.size := let ⟨_, hn, _⟩ := I.loc; hn.lt
theorem Inv.sz (I : Inv X pins σ H s) : X.s₀.heap.objs.size ≤ s.heap.objs.size := Nat.le_trans I.ok.above (Nat.le_of_lt I.lt)
theorem Inv.nofs (I : Inv X pins σ H s) {a : Addr} (h : s.heap.objs.size ≤ a) : a ∉ X.fs := fun hb => by
  obtain ⟨_, o, ho, _⟩ := I.ok.funs.mem hb
  exact absurd (Nat.lt_of_lt_of_le (Heap.lt_size ho) (Nat.le_trans I.sz h)) (Nat.lt_irrefl _)
theorem Inv.cne (I : Inv X pins σ H s) : ∀ x c, X.env.cells.lookup x = some c → c ≠ X.env.locals := fun x c e z => by
  obtain ⟨v, o, ho, hd⟩ := I.cell x c e
  obtain ⟨m, ⟨o', es, ep, ho', hd', _⟩, _⟩ := I.loc
  rw [z, ho'] at ho; cases ho; rw [hd'] at hd; cases hd
theorem Inv.funs (I : Inv X pins σ H s) : s.heap.FunFrames X.base X.outer := by
  have all : ∀ (l : List Env), (∀ b ∈ frs l, b ∈ X.fs) → X.s₀.heap.FunFrames X.base l → s.heap.FunFrames X.base l := by
    intro l
    induction l with
    | nil => intro _ _; trivial
    | cons env r ih =>
      intro hs hl
      obtain ⟨hk, ⟨L, o, hf, hn, ho, hd⟩, hr⟩ := hl
      have hL : L ∈ X.fs := hs L (by unfold frs; rw [List.filterMap_cons, hf]; exact List.mem_cons_self)
      obtain ⟨sl, e⟩ := I.base.slot L o ho (I.ok.frf L hL) hL fun z => I.ok.exfs L z hL
      exact ⟨hk, ⟨L, _, hf, hn, e, hd⟩, ih (fun b hb => hs b (by unfold frs; rw [List.filterMap_cons, hf]; exact List.mem_cons_of_mem _ hb)) hr⟩
  exact all X.outer (fun _ hb => hb) I.ok.funs

/-- the frames that run, for a call -/
theorem Inv.stack (I : Inv X pins σ H s) : s.heap.FunFrames X.base X.stack := by
  rcases I.ok.stk with e | ⟨e, hf⟩
  · rw [e]; exact I.funs
  · rw [e]
    obtain ⟨m, hn, _⟩ := I.loc
    refine .cons (by rw [I.ok.kind]; decide) hf hn ?_ I.funs
    exact Heap.get?_none_of_le (Nat.le_trans I.ok.bsz I.ok.above)
theorem Inv.stkSub (I : Inv X pins σ H s) : ∀ b ∈ frs X.stack, b ∈ X.env.locals :: X.fs := fun b hb => by
  rcases I.ok.stk with e | ⟨e, hf⟩
  · rw [e] at hb; exact List.mem_cons_of_mem _ hb
  · rw [e] at hb
    unfold frs at hb
    rw [List.filterMap_cons, hf] at hb
    exact hb
theorem Inv.stkFree (I : Inv X pins σ H s) : ∀ b ∈ frs X.stack, H b = none := fun b hb => by
  rcases List.mem_cons.mp (I.stkSub b hb) with e | hb
  · rw [e]; exact I.free
  · obtain ⟨_, o, ho, _⟩ := I.ok.funs.mem hb
    exact I.base.free b o ho (I.ok.frf b hb) fun z => I.ok.exfs b z hb

/-- THE STEP: the untracked objects but the frame and the records at ch are kept (the callers' frames up to slots), the frame's map is kept, the new abstract heap is held -/
theorem Inv.step {g' : Array GenState} {t' : Nat} {d' : Drawn} {ch : List Addr} (I : Inv X pins σ H s)
    (hch : ∀ b ∈ ch, (b ∈ X.ex ∨ X.s₀.heap.objs.size ≤ b) ∧ b ≠ X.env.locals ∧ (∀ x c, X.env.cells.lookup x = some c → c ≠ b) ∧ ∀ p ∈ X.pn ++ pins, p.1 ≠ b)
    (keep : ∀ b o, b ≠ X.env.locals → b ∉ X.fs → b ∉ ch → s.heap.get? b = some o → H b = none → h'.get? b = some o)
    (slot : ∀ b o, b ≠ X.env.locals → b ∈ X.fs → b ∉ ch → s.heap.get? b = some o → H b = none → ∃ sl, h'.get? b = some { o with slots := sl }) (free : ∀ b o, b ∉ ch → s.heap.get? b = some o → H b = none → H' b = none)
    (there : ∀ b o, b ∉ ch → s.heap.get? b = some o → ∃ o', h'.get? b = some o')
    (tups : ∀ b xs, H b = some (.tup xs) → H' b = some (.tup xs)) (frzs : ∀ b o u, H b = some (.frz o u) → H' b = some (.frz o u)) (tbls : ∀ b ps, H b = some (.tbl ps) → ∃ more, H' b = some (.tbl (ps ++ more)))
    (ns : ∀ m, s.heap.Ns X.env.locals m → h'.Ns X.env.locals m) (hok : HOk X.prog X.w H' h') (hg : AllBare g') :
    Inv X pins σ H' { s with heap := h', gens := g', drawn := d', toks := t' } := by
  have neL : ∀ b o, X.s₀.heap.get? b = some o → b ≠ X.env.locals := fun b o e => Nat.ne_of_lt (Nat.lt_of_lt_of_le (Heap.lt_size e) I.ok.above)
  have neC : ∀ b o, X.s₀.heap.get? b = some o → b ∉ X.ex → b ∉ ch := fun b o e hx hb => by
    rcases (hch b hb).1 with z | z
    · exact hx z
    · exact absurd (Nat.lt_of_lt_of_le (Heap.lt_size e) z) (Nat.lt_irrefl _)
  have cellK : ∀ x c, X.env.cells.lookup x = some c → ∀ v, s.heap.IsCell c v → h'.IsCell c v := fun x c e v ⟨o, ho, hd⟩ => by
    have nch : c ∉ ch := fun z => (hch c z).2.2.1 x c e rfl
    by_cases hc : c ∈ X.fs
    · obtain ⟨sl, q⟩ := slot c o (I.cne x c e) hc nch ho (I.freeC x c e)
      exact ⟨_, q, hd⟩
    · exact ⟨o, keep c o (I.cne x c e) hc nch ho (I.freeC x c e), hd⟩
  refine ⟨I.ok, I.os, hg, ⟨fun b o e n hb hx => ?_, fun b o e n hb hx => ?_, fun b o e n hx => ?_, fun b o e hx => ?_, fun b xs e => tups b xs (I.base.tups b xs e), fun b o xs e => frzs b o xs (I.base.frzs b o xs e), fun b ps e => ?_⟩, ?_, fun x c e => ?_, ?_, fun x c e => ?_, fun p hp => ?_, hok, I.len⟩
  · exact keep b o (neL b o e) hb (neC b o e hx) (I.base.keep b o e n hb hx) (I.base.free b o e n hx)
  · obtain ⟨sl, e1⟩ := I.base.slot b o e n hb hx
    obtain ⟨sl', e2⟩ := slot b _ (neL b o e) hb (neC b o e hx) e1 (I.base.free b o e n hx)
    exact ⟨sl', e2⟩
  · obtain ⟨o', e1⟩ := I.base.there b o e hx
    exact free b o' (neC b o e hx) e1 (I.base.free b o e n hx)
  · obtain ⟨o', e1⟩ := I.base.there b o e hx
    exact there b o' (neC b o e hx) e1
  · obtain ⟨m1, e1⟩ := I.base.tbls b ps e
    obtain ⟨m2, e2⟩ := tbls b _ e1
    exact ⟨m1 ++ m2, by rw [e2, Array.append_assoc]⟩
  · obtain ⟨m, hn, hl⟩ := I.loc
    refine ⟨m, ns m hn, fun i x v e1 e2 e3 => ?_⟩
    obtain ⟨u, r, l⟩ := hl i x v e1 e2 e3
    refine ⟨u, r, ?_⟩
    rcases l with l | ⟨k, c, e, z⟩
    · exact .inl l
    · exact .inr ⟨k, c, e, cellK x c e _ z⟩
  · obtain ⟨v, z⟩ := I.cell x c e
    exact ⟨v, cellK x c e v z⟩
  · obtain ⟨m, ⟨o, _, _, ho, _⟩, _⟩ := I.loc
    exact free _ o (fun z => (hch _ z).2.1 rfl) ho I.free
  · obtain ⟨v, o, ho, hd⟩ := I.cell x c e
    exact free c o (fun z => (hch c z).2.2.1 x c e rfl) ho (I.freeC x c e)
  · obtain ⟨e, n, ne, nf, d⟩ := I.pin p hp
    have nch : p.1 ∉ ch := fun z => (hch p.1 z).2.2.2 p hp rfl
    exact ⟨keep p.1 p.2 ne nf nch e n, free p.1 p.2 nch e n, ne, nf, d⟩
/-- .. where the frame's own object is kept too -/
theorem Inv.un {t' : Nat} (I : Inv X pins σ H s) (u : Un X.fs [] H H' s.heap h') (hok : HOk X.prog X.w H' h') : Inv X pins σ H' { s with heap := h', toks := t' } := by
  obtain ⟨m, ⟨o, es, ep, ho, r⟩, _⟩ := id I.loc
  obtain ⟨sl, hL⟩ := u.any ho I.free (by simp)
  exact I.step (g' := s.gens) (d' := s.drawn) (ch := []) (fun _ z => nomatch z) (fun b o _ hb _ e n => u.keep b o e n hb (by simp)) (fun b o _ hb _ e n => u.slot b o e n hb (by simp)) (fun b o _ e n => u.free b o e n (by simp)) (fun b o _ e => u.there b o e (by simp)) u.tups u.frzs u.tbls (fun m' hm => by
    obtain ⟨o', es', ep', ho', r'⟩ := hm
    rw [ho] at ho'; cases ho'
    exact ⟨_, es', ep', hL, r'⟩) hok I.bare
/-- behind a call (or a comprehension's block): the slots of this frame may have changed too, the records at ch may have turned -/
theorem Inv.call {g' : Array GenState} {t' : Nat} {d' : Drawn} {ch : List Addr} (I : Inv X pins σ H s) (u : Un (frs X.stack) ch H H' s.heap h') (hok : HOk X.prog X.w H' h') (hg : AllBare g')
    (hch : ∀ b ∈ ch, (b ∈ X.ex ∨ X.s₀.heap.objs.size ≤ b) ∧ b ≠ X.env.locals ∧ (∀ x c, X.env.cells.lookup x = some c → c ≠ b) ∧ ∀ p ∈ X.pn ++ pins, p.1 ≠ b) :
    Inv X pins σ H' { s with heap := h', gens := g', drawn := d', toks := t' } := by
  obtain ⟨m, ⟨o, es, ep, ho, r⟩, _⟩ := id I.loc
  obtain ⟨sl, hL⟩ := u.any ho I.free fun z => (hch _ z).2.1 rfl
  exact I.step (ch := ch) hch (fun b o hL hb hc e n => u.keep b o e n (fun z => (List.mem_cons.mp (I.stkSub b z)).elim hL hb) hc) (fun b o _ _ hc e n => u.any e n hc) (fun b o hc e n => u.free b o e n hc) (fun b o hc e => u.there b o e hc) u.tups u.frzs u.tbls (fun m' hm => by
    obtain ⟨o', es', ep', ho', r'⟩ := hm
    rw [ho] at ho'; cases ho'
    exact ⟨_, es', ep', hL, r'⟩) hok hg
/-- an untracked record of ours (an iterator) has turned -/
theorem Inv.turned {t' : Nat} {it : Addr} (I : Inv X pins σ H s) (k : ∀ b o, b ≠ it → s.heap.get? b = some o → h'.get? b = some o) (hn : H it = none) (hL : it ≠ X.env.locals)
    (h1 : it ∈ X.ex ∨ X.s₀.heap.objs.size ≤ it) (h2 : ∀ x c, X.env.cells.lookup x = some c → c ≠ it) (h3 : ∀ p ∈ X.pn ++ pins, p.1 ≠ it) : Inv X pins σ H { s with heap := h', toks := t' } := by
  have nit : ∀ b u, H b = some u → b ≠ it := fun b u e z => by rw [z, hn] at e; cases e
  refine I.step (g' := s.gens) (d' := s.drawn) (ch := [it]) (fun b hb => ?_) (fun b o _ _ hc e _ => k b o (fun z => hc (by simp [z])) e) (fun b o _ _ hc e _ => ⟨o.slots, k b o (fun z => hc (by simp [z])) e⟩) (fun _ _ _ _ n => n)
    (fun b o hc e => ⟨o, k b o (fun z => hc (by simp [z])) e⟩) (fun _ _ e => e) (fun _ _ _ e => e) (fun b ps e => ⟨#[], by rw [e]; simp⟩) (fun m hm => ?_) (fun b u e => ?_) I.bare
  · have e : b = it := by simpa using hb
    subst e
    exact ⟨h1, hL, h2, h3⟩
  · obtain ⟨o, es, ep, ho, r⟩ := hm
    exact ⟨o, es, ep, k _ o (Ne.symm hL) ho, r⟩
  · refine (I.hok b u e).stay (fun c v hc q => k c v ?_ q) (fun _ q => q) fun _ _ q => q
    rcases hc with z | z
    · rw [z]; exact nit b u e
    · exact nit c _ z
theorem Inv.tok (I : Inv X pins σ H s) (t : Nat) : Inv X pins σ H { s with toks := t } := I.un (h' := s.heap) (t' := t) Un.refl I.hok
/-- all objects kept -/
theorem Inv.kept {t' : Nat} (I : Inv X pins σ H s) (k : ∀ b u, s.heap.get? b = some u → h'.get? b = some u) : Inv X pins σ H { s with heap := h', toks := t' } := I.un (Un.kept k) (I.hok.kept k)
/-- a new object laid and tracked -/
theorem Inv.laid {a : Addr} {o : HO} {t' : Nat} (I : Inv X pins σ H s) (k : ∀ b u, s.heap.get? b = some u → h'.get? b = some u) (hp : s.heap.objs.size ≤ a) (new : ObjOk X.prog X.w (upd H a o) h' a o) :
    Inv X pins σ (upd H a o) { s with heap := h', toks := t' } := I.un (Un.laid k hp (I.hok.fresh hp)) (I.hok.laid k hp new)
/-- an object written -/
theorem Inv.write {x e : Addr} {o : HO} {t' : Nat} (I : Inv X pins σ H s) (mu : Mut (H x)) (he : e = x ∨ H e = some (.own x)) (k : ∀ b u, b ≠ e → s.heap.get? b = some u → h'.get? b = some u) (heo : ∃ u, h'.get? e = some u)
    (new : ObjOk X.prog X.w (upd H x o) h' x o) : Inv X pins σ (upd H x o) { s with heap := h', toks := t' } := I.un (Un.write mu he k heo) (I.hok.write mu he k heo new)
/-- forgetting slots, pins -/
theorem Inv.weak {σ' : List (Option V)} (I : Inv X pins σ H s) (hl : σ'.length = σ.length) (w : ∀ (i : Nat) v, σ'[i]? = some (some v) → σ[i]? = some (some v)) : Inv X pins σ' H s :=
  ⟨I.ok, I.os, I.bare, I.base, let ⟨m, hn, hl'⟩ := I.loc; ⟨m, hn, fun i x v e1 e2 e3 => hl' i x v e1 (w i v e2) e3⟩, I.cell, I.free, I.freeC, I.pin, I.hok, hl.trans I.len⟩
theorem Inv.pins_of {pins' : List (Addr × Obj)} (I : Inv X pins σ H s) (h : ∀ p ∈ pins', s.heap.get? p.1 = some p.2 ∧ H p.1 = none ∧ p.1 ≠ X.env.locals ∧ p.1 ∉ X.fs ∧ ∀ v, p.2.data ≠ .cell v) : Inv X pins' σ H s :=
  ⟨I.ok, I.os, I.bare, I.base, I.loc, I.cell, I.free, I.freeC, fun p hp => (List.mem_append.mp hp).elim (fun z => I.pin p (List.mem_append_left _ z)) (h p), I.hok, I.len⟩

theorem nodup_ix {N : List Str} (hN : N.Nodup) {i j : Nat} {x : Str} (a : N[i]? = some x) (b : N[j]? = some x) : i = j := by
  obtain ⟨h1, e1⟩ := List.getElem?_eq_some_iff.mp a
  obtain ⟨h2, e2⟩ := List.getElem?_eq_some_iff.mp b
  exact (List.getElem_inj hN).mp (e1.trans e2.symm)

/-- a name is stored; what changed -/
theorem store_ok2 {M : Model} {A : Around} {E : Value → Shared → Prop} {i : Nat} {x : Str} {v : V} {u : Value} {Q : Unit → Shared → Prop} (I : Inv X pins σ H s) (hN : X.N.Nodup) (hi : X.N[i]? = some x) (hx : Loc X.env.scope x) (r : RelV v u)
    (h : ∀ s', Inv X pins (σ.set i (some v)) H s' → (∃ a, Heap.SameBut a s.heap s'.heap ∧ (a = X.env.locals ∨ X.env.cells.lookup x = some a)) → Q () s') (hf : X.fn x = true ∨ X.env.scope.names.lookup x = some .local := by first | exact .inl rfl | exact .inr rfl | assumption) : wpAny M A (storeName X.env x u) Q E s := by
  obtain ⟨m, hn, hl⟩ := id I.loc
  have hcls : (X.env.scope.kind == .class || (X.env.scope.kind == .module && X.env.locals != X.env.globals)) = false := by rw [I.ok.kind]; rfl
  have hiσ : i < σ.length := by rw [I.len]; exact (List.getElem?_eq_some_iff.mp hi).1
  have cne := I.cne
  have tracked : ∀ {a : Addr} {h' : Heap}, (∃ o, s.heap.get? a = some o ∧ H a = none) → Heap.SameBut a s.heap h' → HOk X.prog X.w H h' := fun {a h'} ha hs b ob e => by
    obtain ⟨_, _, hfree⟩ := ha
    refine (I.hok b ob e).stay (fun c w' hc q => (hs.2 c ?_).trans q) (fun _ q => q) fun _ _ q => q
    rintro rfl
    rcases hc with rfl | hc
    · rw [hfree] at e; cases e
    · rw [hfree] at hc; cases hc
  rcases hx with hk | hk
  · refine wpAny_storeName_local hk hn (fun h' hn' hs => ?_) hcls
    obtain ⟨oL, _, _, hoL, _⟩ := id hn
    refine h _ ⟨I.ok, I.os, I.bare, ⟨fun b o e n hb hx => ?_, fun b o e n hb hx => ?_, I.base.free, fun b o e hx => ?_, I.base.tups, I.base.frzs, I.base.tbls⟩, ⟨_, hn', fun j y v' e1 e2 e3 => ?_⟩, fun y c e => ?_, I.free, I.freeC, fun p hp => ?_, tracked ⟨oL, hoL, I.free⟩ hs, by simpa using I.len⟩ ⟨_, hs, .inl rfl⟩
    · exact (hs.2 b (Nat.ne_of_lt (Nat.lt_of_lt_of_le (Heap.lt_size e) I.ok.above))).trans (I.base.keep b o e n hb hx)
    · obtain ⟨sl, e1⟩ := I.base.slot b o e n hb hx
      exact ⟨sl, (hs.2 b (Nat.ne_of_lt (Nat.lt_of_lt_of_le (Heap.lt_size e) I.ok.above))).trans e1⟩
    · obtain ⟨o', e1⟩ := I.base.there b o e hx
      exact ⟨o', (hs.2 b (Nat.ne_of_lt (Nat.lt_of_lt_of_le (Heap.lt_size e) I.ok.above))).trans e1⟩
    · by_cases hj : j = i
      · subst hj
        rw [hi] at e1; cases e1
        rw [List.getElem?_set_self hiσ] at e2
        cases e2
        exact ⟨u, r, .inl ⟨hk, by simp⟩⟩
      · rw [List.getElem?_set_ne (Ne.symm hj)] at e2
        obtain ⟨u', r', q⟩ := hl j y v' e1 e2 e3
        refine ⟨u', r', ?_⟩
        rcases q with ⟨k, e⟩ | ⟨k, c, e, z⟩
        · refine .inl ⟨k, ?_⟩
          have : y ≠ x := fun e => hj (nodup_ix hN e1 (e ▸ hi))
          simp [this, e]
        · exact .inr ⟨k, c, e, z.sameBut hs (cne y c e)⟩
    · obtain ⟨w', z⟩ := I.cell y c e
      exact ⟨w', z.sameBut hs (cne y c e)⟩
    · obtain ⟨e, n, ne, nf, d⟩ := I.pin p hp
      exact ⟨(hs.2 p.1 ne).trans e, n, ne, nf, d⟩
  · have hfn : X.fn x = true := by
      rcases hf with z | z
      · exact z
      · rw [z] at hk; cases hk
    obtain ⟨c, hc⟩ := I.ok.has x (.inl hk)
    obtain ⟨w', z⟩ := I.cell x c hc
    refine wpAny_storeName_cell I.ok.kind hk hc z (fun h' hc' hs => ?_)
    obtain ⟨oc, hoc, hocd⟩ := id z
    refine h { s with heap := h' } ⟨I.ok, I.os, I.bare, ⟨fun b o e n hb hx => ?_, fun b o e n hb hx => ?_, I.base.free, fun b o e hx => ?_, I.base.tups, I.base.frzs, I.base.tbls⟩, ⟨m, hn.sameBut hs (Ne.symm (cne x c hc)), fun j y v' e1 e2 e3 => ?_⟩, fun y c' e => ?_, I.free, I.freeC, fun p hp => ?_, tracked ⟨oc, hoc, I.freeC x c hc⟩ hs, by simpa using I.len⟩ ⟨c, hs, .inr hc⟩
    · exact (hs.2 b (Nat.ne_of_lt (Nat.lt_of_lt_of_le (Heap.lt_size e) (I.ok.cab x c hfn hc)))).trans (I.base.keep b o e n hb hx)
    · obtain ⟨sl, e1⟩ := I.base.slot b o e n hb hx
      exact ⟨sl, (hs.2 b (Nat.ne_of_lt (Nat.lt_of_lt_of_le (Heap.lt_size e) (I.ok.cab x c hfn hc)))).trans e1⟩
    · obtain ⟨o', e1⟩ := I.base.there b o e hx
      exact ⟨o', (hs.2 b (Nat.ne_of_lt (Nat.lt_of_lt_of_le (Heap.lt_size e) (I.ok.cab x c hfn hc)))).trans e1⟩
    · by_cases hj : j = i
      · subst hj
        rw [hi] at e1; cases e1
        rw [List.getElem?_set_self hiσ] at e2
        cases e2
        exact ⟨u, r, .inr ⟨.inl hk, c, hc, hc'⟩⟩
      · rw [List.getElem?_set_ne (Ne.symm hj)] at e2
        obtain ⟨u', r', q⟩ := hl j y v' e1 e2 e3
        refine ⟨u', r', ?_⟩
        rcases q with q | ⟨k, c', e, z'⟩
        · exact .inl q
        · refine .inr ⟨k, c', e, z'.sameBut hs ?_⟩
          rintro rfl
          exact hj (nodup_ix hN e1 (I.ok.inj _ _ _ e hc ▸ hi))
    · by_cases hcc : c' = c
      · subst hcc; exact ⟨_, hc'⟩
      · obtain ⟨w2, z2⟩ := I.cell y c' e
        exact ⟨w2, z2.sameBut hs hcc⟩
    · obtain ⟨e, n, ne, nf, d⟩ := I.pin p hp
      refine ⟨(hs.2 p.1 ?_).trans e, n, ne, nf, d⟩
      intro q
      rw [q, hoc] at e
      have q' : oc = p.2 := Option.some.inj e
      exact d w' (by rw [← q']; exact hocd)
theorem store_ok {M : Model} {A : Around} {E : Value → Shared → Prop} {i : Nat} {x : Str} {v : V} {u : Value} {Q : Unit → Shared → Prop} (I : Inv X pins σ H s) (hN : X.N.Nodup) (hi : X.N[i]? = some x) (hx : Loc X.env.scope x) (r : RelV v u)
    (h : ∀ s', Inv X pins (σ.set i (some v)) H s' → Q () s') (hf : X.fn x = true ∨ X.env.scope.names.lookup x = some .local := by first | exact .inl rfl | exact .inr rfl | assumption) : wpAny M A (storeName X.env x u) Q E s :=
  store_ok2 I hN hi hx r (fun s' I' _ => h s' I') hf
/-- behind a call or a block, the state as it is -/
theorem Inv.call' {s' : Shared} {ch : List Addr} (I : Inv X pins σ H s) (ho : s'.os = s.os) (u : Un (frs X.stack) ch H H' s.heap s'.heap) (hok : HOk X.prog X.w H' s'.heap) (hg : AllBare s'.gens)
    (hch : ∀ b ∈ ch, (b ∈ X.ex ∨ X.s₀.heap.objs.size ≤ b) ∧ b ≠ X.env.locals ∧ (∀ x c, X.env.cells.lookup x = some c → c ≠ b) ∧ ∀ p ∈ X.pn ++ pins, p.1 ≠ b) : Inv X pins σ H' s' := by
  obtain ⟨h', g', d', t', o'⟩ := s'
  have e : o' = s.os := ho
  subst e
  exact I.call (g' := g') (t' := t') (d' := d') u hok hg hch
end

/-! ### the judgements -/
/-- an exception: its class, its own dict's address (where it has one), the abstract heap behind it -/
abbrev XK := Value → Option Addr → Hp → Prop
abbrev St := List (Option V)
abbrev VK := V → Hp → Prop
/-- an expression's reading; a test's; an argument list's -/
abbrev TE := St → Hp → VK → Prop
abbrev TT := St → Hp → (Bool → Hp → Prop) → Prop
abbrev TA := St → Hp → (List V → Hp → Prop) → Prop
/-- what is wanted behind a statement -/
structure Ends where
  nx : St → Hp → Prop
  rt : VK
  bk : St → Hp → Prop := fun _ _ => False
  ct : St → Hp → Prop := fun _ _ => False
abbrev TS := Ends → St → Hp → Prop

def EP (X : Cx) (pins : List (Addr × Obj)) (σ : St) (Q : VK) (u : Value) (s' : Shared) : Prop := ∃ v H', Inv X pins σ H' s' ∧ RelV v u ∧ Q v H'
def TP (X : Cx) (pins : List (Addr × Obj)) (σ : St) (Q : Bool → Hp → Prop) (b : Bool) (s' : Shared) : Prop := ∃ H', Inv X pins σ H' s' ∧ Q b H'
def AP (X : Cx) (pins : List (Addr × Obj)) (σ : St) (Q : List V → Hp → Prop) (us : List Value) (s' : Shared) : Prop := ∃ vs H', Inv X pins σ H' s' ∧ Vals vs us ∧ Q vs H'
def SP (X : Cx) (pins : List (Addr × Obj)) (D : Ends) (f : Flow) (s' : Shared) : Prop :=
  match f with
  | .next => ∃ σ' H', Inv X pins σ' H' s' ∧ D.nx σ' H'
  | .brk => ∃ σ' H', Inv X pins σ' H' s' ∧ D.bk σ' H'
  | .cont => ∃ σ' H', Inv X pins σ' H' s' ∧ D.ct σ' H'
  | .ret u => ∃ v σ' H', Inv X pins σ' H' s' ∧ RelV v u ∧ D.rt v H'

def PE (X : Cx) (e : Expr) (t : TE) : Prop :=
  ∀ (pins : List (Addr × Obj)) (s : Shared) (σ : St) (H : Hp) (Q : VK), Inv X pins σ H s → t σ H Q → wpAny (model X.prog X.w) X.A (eval e X.env) (EP X pins σ Q) X.xe s
def PT (X : Cx) (e : Expr) (t : TT) : Prop :=
  ∀ (pins : List (Addr × Obj)) (s : Shared) (σ : St) (H : Hp) (Q : Bool → Hp → Prop), Inv X pins σ H s → t σ H Q → wpAny (model X.prog X.w) X.A (isTrue e X.env (eval e X.env)) (TP X pins σ Q) X.xe s
/-- a test whatever its 'whole' is (and, or) -/
def PW (X : Cx) (e : Expr) (t : TT) : Prop :=
  ∀ (whole : Sem Value) (pins : List (Addr × Obj)) (s : Shared) (σ : St) (H : Hp) (Q : Bool → Hp → Prop), Inv X pins σ H s → t σ H Q → wpAny (model X.prog X.w) X.A (isTrue e X.env whole) (TP X pins σ Q) X.xe s
theorem PW.pt {X : Cx} {e : Expr} {t : TT} (h : PW X e t) : PT X e t := h _
/-- an argument list (no star), from the left -/
def PA (X : Cx) (es : List Expr) (t : TA) : Prop :=
  ∀ (pos : Pos) (pins : List (Addr × Obj)) (s : Shared) (σ : St) (H : Hp) (Q : List V → Hp → Prop), Inv X pins σ H s → t σ H Q → wpAny (model X.prog X.w) X.A (spliced (backTo pos (starEach es X.env))) (AP X pins σ Q) X.xe s
def PS (X : Cx) (st : Stmt) (t : TS) : Prop :=
  ∀ (pins : List (Addr × Obj)) (s : Shared) (σ : St) (H : Hp) (D : Ends), Inv X pins σ H s → t D σ H → wpAny (model X.prog X.w) X.A (exec st X.env) (SP X pins D) X.xe s
def PSs (X : Cx) (st : List Stmt) (t : TS) : Prop :=
  ∀ (pins : List (Addr × Obj)) (s : Shared) (σ : St) (H : Hp) (D : Ends), Inv X pins σ H s → t D σ H → wpAny (model X.prog X.w) X.A (execs st X.env) (SP X pins D) X.xe s
/-- weaken the end -/
theorem thn {α : Type} {t : Sem α} {Q Q' : α → Shared → Prop} {M : Model} {A : Around} {E : Value → Shared → Prop} {s : Shared} (h : wpAny M A t Q E s) (hQ : ∀ a s, Q a s → Q' a s) : wpAny M A t Q' E s := wpAny_mono h hQ fun _ _ x => x
end L2

namespace L2
open PySem PySem.Spec PyProof.Rows
section
variable {X : Cx}

/-- two expressions in a row -/
theorem bin {a b : Expr} {ta tb : TE} (ha : PE X a ta) (hb : PE X b tb) {pins : List (Addr × Obj)} {s : Shared} {σ : St} {H : Hp} {R : V → V → Hp → Prop} (I : Inv X pins σ H s) (h : ta σ H fun x H1 => tb σ H1 fun y H2 => R x y H2)
    {α : Type} {Q : α → Shared → Prop} {f : Value → Value → Sem α}
    (hf : ∀ v u s2 x y H2, Inv X pins σ H2 s2 → RelV x v → RelV y u → R x y H2 → wpAny (model X.prog X.w) X.A (f v u) Q X.xe s2) :
    wpAny (model X.prog X.w) X.A (eval a X.env) (fun v s₁ => wpAny (model X.prog X.w) X.A (eval b X.env) (fun u s₂ => wpAny (model X.prog X.w) X.A (f v u) Q X.xe s₂) X.xe s₁) X.xe s := by
  refine thn (ha pins s σ H _ I h) fun v s1 ⟨x, H1, I1, r1, q1⟩ => ?_
  refine thn (hb pins s1 σ H1 _ I1 q1) fun u s2 ⟨y, H2, I2, r2, q2⟩ => ?_
  exact hf v u s2 x y H2 I2 r1 r2 q2

/-! ### names and constants -/
def tVar (i : Nat) : TE := fun σ H Q => ∃ v, σ[i]? = some (some v) ∧ Q v H
def tC (v : V) : TE := fun _ H Q => Q v H
theorem pe_var {i : Nat} {x : Str} {pos : Pos} (hN : X.N[i]? = some x) (hv : Vis X.env.scope x) (hd : (x == ("__debug__" : Str)) = false := by decide) (hcd : (x == ("__classdict__" : Str)) = false := by decide) : PE X (.Name x pos) (tVar i) := by
  intro pins s σ H Q I h
  obtain ⟨v, e, h⟩ := h
  obtain ⟨m, hn, hl⟩ := I.loc
  obtain ⟨u, r, l⟩ := hl i x v hN e hv
  have fin : EP X pins σ Q u s := ⟨v, H, I, r, h⟩
  rcases l with ⟨hk, hm⟩ | ⟨hk, c, hc, hcell⟩
  · exact wpAny_Name (wpAny_loadName_local I.ok.kind hk hn hm fin) hd
  · rcases hk with hk | hk
    · exact wpAny_Name (wpAny_loadName_cell I.ok.kind hk hc hcell fin) hd
    · exact wpAny_Name (wpAny_loadName_free I.ok.kind hk hc hcell fin hcd) hd
theorem pe_int {i j pos} : PE X (.Constant (.int i) j pos) (tC (.int i)) := fun _ _ _ H _ I h => wpAny_Constant_int ⟨.int i, H, I.tok _, ⟨_, rfl⟩, h⟩
theorem pe_bl {b j pos} : PE X (.Constant (.bool b) j pos) (tC (.bl b)) := fun _ _ _ H _ I h => Constant_bool ⟨.bl b, H, I, rfl, h⟩
theorem pe_non {j pos} : PE X (.Constant .none j pos) (tC .non) := fun _ _ _ H _ I h => Constant_none ⟨.non, H, I, rfl, h⟩
theorem pe_str {x j pos} : PE X (.Constant (.str x) j pos) (tC (.str x)) := fun _ _ _ H _ I h => Calls.Constant_str ⟨.str x, H, I.tok _, ⟨_, rfl⟩, h⟩

/-- a global name of the def -/
def Gl (X : Cx) (x : Str) : Prop := X.env.kindOf x = some .globalImplicit
theorem ld_glob {E : Value → Shared → Prop} {pins : List (Addr × Obj)} {s : Shared} {σ : St} {H : Hp} {x : Str} {u : Value} {pos : Pos} {Q : Value → Shared → Prop} (I : Inv X pins σ H s) (hg : Gl X x) (hm : X.mg x = some u) (h : Q u s)
    (hd : (x == ("__debug__" : Str)) = false := by decide) : wpAny (model X.prog X.w) X.A (eval (.Name x pos) X.env) Q E s :=
  Calls.Name_function_global I.ok.kind hg (Calls.loadGlobal_global (by rw [I.ok.glob]; exact I.mod.glob.keeps I.bk) hm h) hd
theorem ld_blt {E : Value → Shared → Prop} {pins : List (Addr × Obj)} {s : Shared} {σ : St} {H : Hp} {x : Str} {u : Value} {pos : Pos} {Q : Value → Shared → Prop} (I : Inv X pins σ H s) (hg : Gl X x) (hm : X.mg x = none) (hv : bootBuiltins x = some u) (h : Q u s)
    (hn : x ≠ "__name__" := by decide) (hd : (x == ("__debug__" : Str)) = false := by decide) : wpAny (model X.prog X.w) X.A (eval (.Name x pos) X.env) Q E s := by
  obtain ⟨mb, h1, h2⟩ := I.mod.blt
  exact Calls.Name_function_global I.ok.kind hg (Calls.loadGlobal_builtin (by rw [I.ok.glob]; exact I.mod.glob.keeps I.bk) hm (by rw [I.ok.blt]; exact h1.keeps I.bk) ((h2 x hn).trans hv) h) hd
/-- a module's constant, a class, a function, as a value -/
theorem pe_glob {x : Str} {v : V} {u : Value} {pos : Pos} (hg : Gl X x) (hm : X.mg x = some u) (r : RelV v u) (hd : (x == ("__debug__" : Str)) = false := by decide) : PE X (.Name x pos) (tC v) :=
  fun _ _ _ H _ I h => ld_glob I hg hm ⟨v, H, I, r, h⟩ hd
theorem pe_bltn {x : Str} {v : V} {u : Value} {pos : Pos} (hg : Gl X x) (hm : X.mg x = none) (hv : bootBuiltins x = some u) (r : RelV v u) (hn : x ≠ "__name__" := by decide) (hd : (x == ("__debug__" : Str)) = false := by decide) : PE X (.Name x pos) (tC v) :=
  fun _ _ _ H _ I h => ld_blt I hg hm hv ⟨v, H, I, r, h⟩ hn hd

/-! ### arithmetic -/
/-- two ints -/
def t2I (ta tb : TE) (k : Int → Int → Hp → Prop) : St → Hp → Prop := fun σ H => ta σ H fun x H1 => tb σ H1 fun y H2 => ∃ i j, x = .int i ∧ y = .int j ∧ k i j H2
def tAdd (ta tb : TE) : TE := fun σ H Q => t2I ta tb (fun i j H2 => Q (.int (i + j)) H2) σ H
def tSub (ta tb : TE) : TE := fun σ H Q => t2I ta tb (fun i j H2 => Q (.int (i - j)) H2) σ H
/-- the left factor below 2^64 -/
def tMul (ta tb : TE) : TE := fun σ H Q => t2I ta tb (fun i j H2 => (-(2 ^ 64) < i ∧ i < 2 ^ 64) ∧ Q (.int (i * j)) H2) σ H
variable {a b : Expr} {ta tb : TE} {pos : Pos}
theorem pe_add (ha : PE X a ta) (hb : PE X b tb) : PE X (.BinOp a .Add b pos) (tAdd ta tb) := by
  intro pins s σ H Q I h
  refine wpAny_BinOp (bin ha hb I h fun v u s2 x y H2 I2 rx ry q => ?_)
  obtain ⟨i, j, rfl, rfl, q⟩ := q
  obtain ⟨t, rfl⟩ := rx
  obtain ⟨t', rfl⟩ := ry
  exact add_int ⟨.int _, H2, I2.tok _, ⟨_, rfl⟩, q⟩
theorem pe_sub (ha : PE X a ta) (hb : PE X b tb) : PE X (.BinOp a .Sub b pos) (tSub ta tb) := by
  intro pins s σ H Q I h
  refine wpAny_BinOp (bin ha hb I h fun v u s2 x y H2 I2 rx ry q => ?_)
  obtain ⟨i, j, rfl, rfl, q⟩ := q
  obtain ⟨t, rfl⟩ := rx
  obtain ⟨t', rfl⟩ := ry
  exact sub_int ⟨.int _, H2, I2.tok _, ⟨_, rfl⟩, q⟩
theorem pe_mul (ha : PE X a ta) (hb : PE X b tb) : PE X (.BinOp a .Mult b pos) (tMul ta tb) := by
  intro pins s σ H Q I h
  refine wpAny_BinOp (bin ha hb I h fun v u s2 x y H2 I2 rx ry q => ?_)
  obtain ⟨i, j, rfl, rfl, ⟨q1, q2⟩, q⟩ := q
  obtain ⟨t, rfl⟩ := rx
  obtain ⟨t', rfl⟩ := ry
  exact mul_int ⟨.int _, H2, I2.tok _, ⟨_, rfl⟩, q⟩ (.of_left (intBits_le_64 q1 q2))

/-! ### comparisons -/
def PC (X : Cx) (op : CmpOp) (a b : Expr) (t : TE) : Prop :=
  ∀ (pins : List (Addr × Obj)) (s : Shared) (σ : St) (H : Hp) (Q : VK), Inv X pins σ H s → t σ H Q →
    wpAny (model X.prog X.w) X.A (eval a X.env) (fun v s₁ => wpAny (model X.prog X.w) X.A (eval b X.env) (fun u s₂ => wpAny (model X.prog X.w) X.A (compareOp op v u) (EP X pins σ Q) X.xe s₂) X.xe s₁) X.xe s
theorem nobehind (b : Expr) {op : CmpOp} (h : op ≠ .In) (h2 : op ≠ .NotIn) : behindInMarks op b = false := by
  have e1 : (op == CmpOp.In) = false := by cases op <;> first | rfl | exact absurd rfl h
  have e2 : (op == CmpOp.NotIn) = false := by cases op <;> first | rfl | exact absurd rfl h2
  cases b <;> simp [behindInMarks, e1, e2]
def tCmp (p : Int → Int → Bool) (ta tb : TE) : TE := fun σ H Q => t2I ta tb (fun i j H2 => Q (.bl (p i j)) H2) σ H
abbrev tLt : TE → TE → TE := tCmp fun i j => decide (i < j)
abbrev tLe : TE → TE → TE := tCmp fun i j => decide (i ≤ j)
abbrev tGt : TE → TE → TE := tCmp fun i j => decide (j < i)
abbrev tGe : TE → TE → TE := tCmp fun i j => decide (j ≤ i)
abbrev tEqI : TE → TE → TE := tCmp fun i j => decide (i = j)
abbrev tNeI : TE → TE → TE := tCmp fun i j => !decide (i = j)
/-- a comparison of two ints, by its rule -/
theorem pc_int {op : CmpOp} {p : Int → Int → Bool} (ha : PE X a ta) (hb : PE X b tb)
    (rule : ∀ (i j : Int) (t u : Tok) (Q : Value → Shared → Prop) (s : Shared), Q (.bool (p i j)) s → wpAny (model X.prog X.w) X.A (compareOp op (.int i t) (.int j u)) Q X.xe s) : PC X op a b (tCmp p ta tb) := by
  intro pins s σ H Q I h
  refine bin ha hb I h fun v u s2 x y H2 I2 rx ry q => ?_
  obtain ⟨i, j, rfl, rfl, q⟩ := q
  obtain ⟨t, rfl⟩ := rx
  obtain ⟨t', rfl⟩ := ry
  exact rule i j t t' _ s2 ⟨.bl _, H2, I2, rfl, q⟩
theorem pc_lt (ha : PE X a ta) (hb : PE X b tb) : PC X .Lt a b (tLt ta tb) := pc_int ha hb fun _ _ _ _ _ _ h => lt_int h
theorem pc_le (ha : PE X a ta) (hb : PE X b tb) : PC X .LtE a b (tLe ta tb) := pc_int ha hb fun _ _ _ _ _ _ h => le_int h
theorem pc_gt (ha : PE X a ta) (hb : PE X b tb) : PC X .Gt a b (tGt ta tb) := pc_int ha hb fun _ _ _ _ _ _ h => gt_int h
theorem pc_ge (ha : PE X a ta) (hb : PE X b tb) : PC X .GtE a b (tGe ta tb) := pc_int ha hb fun _ _ _ _ _ _ h => ge_int h
theorem pc_eqI (ha : PE X a ta) (hb : PE X b tb) : PC X .Eq a b (tEqI ta tb) := pc_int ha hb fun _ _ _ _ _ _ h => eq_int (by rw [Bool.beq_eq_decide_eq]; exact h)
theorem pc_neI (ha : PE X a ta) (hb : PE X b tb) : PC X .NotEq a b (tNeI ta tb) := pc_int ha hb fun _ _ _ _ _ _ h => ne_int (by rw [bne, Bool.beq_eq_decide_eq]; exact h)
/-- is None -/
def tIsN (ta : TE) : TE := fun σ H Q => ta σ H fun x H1 => Q (.bl (decide (x = .non))) H1
def tNotN (ta : TE) : TE := fun σ H Q => ta σ H fun x H1 => Q (.bl (!decide (x = .non))) H1
theorem RelV.none_iff {x : V} {v : Value} (r : RelV x v) : (v == Value.none) = decide (x = .non) := by
  cases x with
  | non => cases r; rfl
  | bl _ => cases r; rfl
  | int _ => obtain ⟨t, rfl⟩ := r; rfl
  | str _ => obtain ⟨t, rfl⟩ := r; rfl
  | byt _ => obtain ⟨t, rfl⟩ := r; rfl
  | flt _ => obtain ⟨t, rfl⟩ := r; rfl
  | ref _ => cases r; rfl
  | ty _ => cases r; rfl
theorem pc_isN {j pos'} (ha : PE X a ta) : PC X .Is a (.Constant .none j pos') (tIsN ta) := by
  intro pins s σ H Q I h
  refine thn (ha pins s σ H _ I h) fun v s1 ⟨x, H1, I1, r1, q1⟩ => ?_
  exact Constant_none (is_none_gen ⟨.bl _, H1, I1, by rw [r1.none_iff]; rfl, q1⟩)
theorem pc_notN {j pos'} (ha : PE X a ta) : PC X .IsNot a (.Constant .none j pos') (tNotN ta) := by
  intro pins s σ H Q I h
  refine thn (ha pins s σ H _ I h) fun v s1 ⟨x, H1, I1, r1, q1⟩ => ?_
  exact Constant_none (isnot_none_gen ⟨.bl _, H1, I1, by rw [r1.none_iff]; rfl, q1⟩)
/-- a comparison as a value, as a test -/
def tB (t : TE) : TT := fun σ H Q => t σ H fun x H1 => ∃ c, x = .bl c ∧ Q c H1
theorem pe_cmp {op : CmpOp} {t : TE} (h : PC X op a b t) (h1 : behindInMarks op b = false := by first | exact nobehind _ (by decide) (by decide) | rfl) : PE X (.Compare a [op] [b] pos) t := fun pins s σ H Q I hw => wpAny_Compare1 (h pins s σ H Q I hw) h1
theorem pt_cmp {op : CmpOp} {t : TE} (h : PC X op a b t) (h1 : behindInMarks op b = false := by first | exact nobehind _ (by decide) (by decide) | rfl) : PT X (.Compare a [op] [b] pos) (tB t) := by
  intro pins s σ H Q I hw
  refine wpAny_isTrue_Compare1 (thn (h pins s σ H _ I hw) fun v s1 h1 => thn h1 fun u s2 h2 => thn h2 fun c s3 ⟨x, H1, I1, r1, q1⟩ => ?_) h1
  obtain ⟨d, rfl, q⟩ := q1
  cases r1
  exact wpAny_truthy_bool ⟨H1, I1, q⟩
/-- an expression whose value is a bool, as a test -/
theorem pt_val {e : Expr} {t : TE} (h : PE X e t) (he : ∀ whole, isTrue e X.env whole = (do let v ← whole; standAt e.pos; holding [v] (truthy v)) := by intro _; rfl) : PT X e (tB t) := by
  intro pins s σ H Q I hw
  refine isTrue_plain (thn (h pins s σ H _ I hw) fun v s1 ⟨x, H1, I1, r1, q1⟩ => ?_) (he _)
  obtain ⟨d, rfl, q⟩ := q1
  cases r1
  exact wpAny_truthy_bool ⟨H1, I1, q⟩

/-! ### and, or, not -/
variable {tA tB' : TT} {rest : List Expr}
def tAnd (t u : TT) : TT := fun σ H Q => t σ H fun c H1 => if c = true then u σ H1 Q else Q false H1
def tOr (t u : TT) : TT := fun σ H Q => t σ H fun c H1 => if c = true then Q true H1 else u σ H1 Q
def tNot (t : TT) : TT := fun σ H Q => t σ H fun c H1 => Q (!c) H1
theorem pw_and1 (ha : PT X a tA) : PW X (.BoolOp .And [a] pos) tA := by
  intro wh pins s σ H Q I h
  refine isTrue_and (thn (ha pins s σ H Q I h) fun c s1 e => ?_)
  cases c with
  | true => exact isTrue_and_nil e
  | false => exact e
theorem pw_or1 (ha : PT X a tA) : PW X (.BoolOp .Or [a] pos) tA := by
  intro wh pins s σ H Q I h
  refine isTrue_or (thn (ha pins s σ H Q I h) fun c s1 e => ?_)
  cases c with
  | false => exact isTrue_or_nil e
  | true => exact e
theorem pw_and (ha : PT X a tA) (hb : PW X (.BoolOp .And (b :: rest) pos) tB') : PW X (.BoolOp .And (a :: b :: rest) pos) (tAnd tA tB') := by
  intro wh pins s σ H Q I h
  refine isTrue_and (thn (ha pins s σ H _ I h) fun c s1 ⟨H1, I1, q1⟩ => ?_)
  cases c with
  | true => exact hb wh pins s1 σ H1 Q I1 q1
  | false => exact ⟨H1, I1, q1⟩
theorem pw_or (ha : PT X a tA) (hb : PW X (.BoolOp .Or (b :: rest) pos) tB') : PW X (.BoolOp .Or (a :: b :: rest) pos) (tOr tA tB') := by
  intro wh pins s σ H Q I h
  refine isTrue_or (thn (ha pins s σ H _ I h) fun c s1 ⟨H1, I1, q1⟩ => ?_)
  cases c with
  | true => exact ⟨H1, I1, q1⟩
  | false => exact hb wh pins s1 σ H1 Q I1 q1
theorem pt_not (ha : PT X a tA) : PT X (.UnaryOp .Not a pos) (tNot tA) := by
  intro pins s σ H Q I h
  exact isTrue_not (ha pins s σ H (fun c H1 => Q (!c) H1) I h)
/-- .. as values (bools) -/
def tAndV (ta tb : TE) : TE := fun σ H Q => ta σ H fun x H1 => ∃ c, x = .bl c ∧ if c = true then tb σ H1 Q else Q (.bl false) H1
def tOrV (ta tb : TE) : TE := fun σ H Q => ta σ H fun x H1 => ∃ c, x = .bl c ∧ if c = true then Q (.bl true) H1 else tb σ H1 Q
def tNotV (ta : TE) : TE := fun σ H Q => ta σ H fun x H1 => ∃ c, x = .bl c ∧ Q (.bl (!c)) H1
theorem pe_one {op} {t : TE} (h : PE X a t) : PE X (.BoolOp op [a] pos) t := fun pins s σ H Q I hw => BoolOp_one (h pins s σ H Q I hw)
theorem pe_and (ha : PE X a ta) (hb : PE X (.BoolOp .And (b :: rest) pos) tb) : PE X (.BoolOp .And (a :: b :: rest) pos) (tAndV ta tb) := by
  intro pins s σ H Q I h
  refine BoolOp_and (thn (ha pins s σ H _ I h) fun v s1 ⟨x, H1, I1, r1, q1⟩ => ?_)
  obtain ⟨c, rfl, q1⟩ := q1
  cases r1
  refine wpAny_truthy_bool ?_
  cases c with
  | true => exact hb pins s1 σ H1 Q I1 q1
  | false => exact ⟨.bl false, H1, I1, rfl, q1⟩
theorem pe_or (ha : PE X a ta) (hb : PE X (.BoolOp .Or (b :: rest) pos) tb) : PE X (.BoolOp .Or (a :: b :: rest) pos) (tOrV ta tb) := by
  intro pins s σ H Q I h
  refine BoolOp_or (thn (ha pins s σ H _ I h) fun v s1 ⟨x, H1, I1, r1, q1⟩ => ?_)
  obtain ⟨c, rfl, q1⟩ := q1
  cases r1
  refine wpAny_truthy_bool ?_
  cases c with
  | false => exact hb pins s1 σ H1 Q I1 q1
  | true => exact ⟨.bl true, H1, I1, rfl, q1⟩
theorem pe_not (ha : PE X a ta) : PE X (.UnaryOp .Not a pos) (tNotV ta) := by
  intro pins s σ H Q I h
  refine UnaryOp_ (thn (ha pins s σ H _ I h) fun v s1 ⟨x, H1, I1, r1, q1⟩ => ?_)
  obtain ⟨c, rfl, q1⟩ := q1
  cases r1
  exact not_of (wpAny_truthy_bool ⟨.bl (!c), H1, I1, rfl, q1⟩)
/-- a if t else b -/
def tIf (t : TT) (ta tb : TE) : TE := fun σ H Q => t σ H fun c H1 => if c = true then ta σ H1 Q else tb σ H1 Q
theorem pe_ifExp {c : Expr} (hc : PT X c tA) (ha : PE X a ta) (hb : PE X b tb) : PE X (.IfExp c a b pos) (tIf tA ta tb) := by
  intro pins s σ H Q I h
  refine wpAny_IfExp (thn (hc pins s σ H _ I h) fun d s1 ⟨H1, I1, q1⟩ => ?_)
  cases d with
  | true => exact ha pins s1 σ H1 Q I1 q1
  | false => exact hb pins s1 σ H1 Q I1 q1
end
end L2

namespace L2
open PySem PySem.Spec PyProof.Rows

/-! ### a list, a tuple that is read: tracked, frozen, or an object of the module -/
def SqL (K : PySem.W.Frag) (H : Hp) (a : Addr) (xs : List V) : Prop :=
  Rd H a (.lst xs) ∨
    ∃ (o : Obj) (its : Array Value) (n : Nat), K.lookup a = some o ∧ o.cls = .type "list" ∧ o.dict = none ∧ o.data = .seq its n ∧ its.size ≤ sizeLine ∧ Vals xs its.toList
def SqT (K : PySem.W.Frag) (H : Hp) (a : Addr) (xs : List V) : Prop :=
  Rd H a (.tup xs) ∨
    ∃ (o : Obj) (its : Array Value) (n : Nat), K.lookup a = some o ∧ o.cls = .type "tuple" ∧ o.data = .seq its n ∧ its.size ≤ sizeLine ∧ Vals xs its.toList
def absV : Value → Option V
  | .none => some .non
  | .bool b => some (.bl b)
  | .int i _ => some (.int i)
  | .str x _ => some (.str x)
  | .bytes b _ => some (.byt b)
  | .float b _ => some (.flt b)
  | .ref a => some (.ref a)
  | .type n => some (.ty n)
  | _ => none
theorem RelV.abs {x : V} {u : Value} (r : RelV x u) : absV u = some x := by
  cases x with
  | non => cases r; rfl
  | bl _ => cases r; rfl
  | int _ => obtain ⟨t, rfl⟩ := r; rfl
  | str _ => obtain ⟨t, rfl⟩ := r; rfl
  | byt _ => obtain ⟨t, rfl⟩ := r; rfl
  | flt _ => obtain ⟨t, rfl⟩ := r; rfl
  | ref _ => cases r; rfl
  | ty _ => cases r; rfl
theorem RelV.inj {x y : V} {u : Value} (r : RelV x u) (q : RelV y u) : x = y := Option.some.inj (r.abs.symm.trans q.abs)
theorem Vals.inj : ∀ {xs ys : List V} {us : List Value}, Vals xs us → Vals ys us → xs = ys
  | _, _, _, .nil, .nil => rfl
  | _, _, _, .cons r t, .cons r' t' => by rw [r.inj r', Vals.inj t t']
section
variable {X : Cx} {pins : List (Addr × Obj)} {σ : St} {H : Hp} {s : Shared} {a : Addr} {xs ys : List V}
theorem SqL.of {K : PySem.W.Frag} (h : H a = some (.lst xs)) : SqL K H a xs := .inl (.inl h)
theorem SqT.of {K : PySem.W.Frag} (h : H a = some (.tup xs)) : SqT K H a xs := .inl (.inl h)
theorem Inv.list (I : Inv X pins σ H s) (h : SqL X.K H a xs) : ∃ its : List Value, Vals xs its ∧ PlainL s.heap a its.toArray ∧ xs.length ≤ sizeLine := by
  rcases h with h | ⟨o, its, n, hk, hc, hd, hs, hz, r⟩
  · obtain ⟨z, its, n, r, e⟩ := h.ok I.hok
    exact ⟨its, r, ⟨_, n, e, rfl, rfl, rfl⟩, z⟩
  · refine ⟨its.toList, r, ⟨o, n, I.kIn a o hk, hc, hd, by simpa using hs⟩, ?_⟩
    have e := r.length
    simp only [Array.length_toList] at e
    omega
theorem Inv.tuple (I : Inv X pins σ H s) (h : SqT X.K H a xs) : ∃ its : List Value, Vals xs its ∧ IsTup s.heap a its.toArray ∧ xs.length ≤ sizeLine := by
  rcases h with h | ⟨o, its, n, hk, hc, hs, hz, r⟩
  · obtain ⟨z, its, r, p⟩ := h.ok I.hok
    exact ⟨its, r, p, z⟩
  · refine ⟨its.toList, r, ⟨o, I.kIn a o hk, hc, n, by simpa using hs⟩, ?_⟩
    have e := r.length
    simp only [Array.length_toList] at e
    omega
theorem Inv.list_inj (I : Inv X pins σ H s) (h : SqL X.K H a xs) (h' : SqL X.K H a ys) : xs = ys := by
  obtain ⟨its, r, ⟨o, n, e, _, _, d⟩, _⟩ := I.list h
  obtain ⟨its', r', ⟨o', n', e', _, _, d'⟩, _⟩ := I.list h'
  rw [e] at e'; cases e'
  rw [d] at d'
  injection d' with d1 _
  have : its = its' := by simpa using congrArg Array.toList d1
  subst this
  exact r.inj r'
theorem Inv.tuple_inj (I : Inv X pins σ H s) (h : SqT X.K H a xs) (h' : SqT X.K H a ys) : xs = ys := by
  obtain ⟨its, r, ⟨o, e, _, n, d⟩, _⟩ := I.tuple h
  obtain ⟨its', r', ⟨o', e', _, n', d'⟩, _⟩ := I.tuple h'
  rw [e] at e'; cases e'
  rw [d] at d'
  injection d' with d1 _
  have : its = its' := by simpa using congrArg Array.toList d1
  subst this
  exact r.inj r'
end

/-! ### another wish about exceptions -/
abbrev Cx.wish (X : Cx) (E : Value → Shared → Prop) : Cx := { X with xe := E }
/-- no exception leaves -/
abbrev Cx.nox (X : Cx) : Cx := X.wish fun _ _ => False
theorem Cx.Ok.wish {X : Cx} (ok : X.Ok) (E : Value → Shared → Prop) : (X.wish E).Ok :=
  ⟨ok.mod, ok.kind, ok.glob, ok.blt, ok.above, ok.inj, ok.has, ok.cab, ok.hd, ok.frames, ok.stk, ok.exf, ok.bs, ok.bsz, ok.noex, ok.exfs, ok.funs, ok.frf⟩
theorem Cx.Ok.unwish {X : Cx} {E : Value → Shared → Prop} (ok : (X.wish E).Ok) : X.Ok :=
  ⟨ok.mod, ok.kind, ok.glob, ok.blt, ok.above, ok.inj, ok.has, ok.cab, ok.hd, ok.frames, ok.stk, ok.exf, ok.bs, ok.bsz, ok.noex, ok.exfs, ok.funs, ok.frf⟩
section
variable {X : Cx} {pins : List (Addr × Obj)} {σ : St} {H : Hp} {s : Shared} {E : Value → Shared → Prop}
theorem Inv.wish (I : Inv X pins σ H s) (E : Value → Shared → Prop) : Inv (X.wish E) pins σ H s := ⟨I.ok.wish E, I.os, I.bare, I.base, I.loc, I.cell, I.free, I.freeC, I.pin, I.hok, I.len⟩
theorem Inv.unwish (I : Inv (X.wish E) pins σ H s) : Inv X pins σ H s := ⟨I.ok.unwish, I.os, I.bare, I.base, I.loc, I.cell, I.free, I.freeC, I.pin, I.hok, I.len⟩
theorem SP.unwish {D : Ends} {f : Flow} {s' : Shared} (h : SP (X.wish E) pins D f s') : SP X pins D f s' := by
  cases f with
  | next => obtain ⟨σ', H', I, q⟩ := h; exact ⟨σ', H', I.unwish, q⟩
  | brk => obtain ⟨σ', H', I, q⟩ := h; exact ⟨σ', H', I.unwish, q⟩
  | cont => obtain ⟨σ', H', I, q⟩ := h; exact ⟨σ', H', I.unwish, q⟩
  | ret u => obtain ⟨v, σ', H', I, r, q⟩ := h; exact ⟨v, σ', H', I.unwish, r, q⟩
theorem PE.nox {e : Expr} {t : TE} (h : PE X.nox e t) : PE X e t := fun pins s σ H Q I hw =>
  wpAny_mono (h pins s σ H Q (I.wish _) hw) (fun _ _ ⟨v, H', I', r, q⟩ => ⟨v, H', I'.unwish, r, q⟩) fun _ _ z => False.elim z
theorem PT.nox {e : Expr} {t : TT} (h : PT X.nox e t) : PT X e t := fun pins s σ H Q I hw =>
  wpAny_mono (h pins s σ H Q (I.wish _) hw) (fun _ _ ⟨H', I', q⟩ => ⟨H', I'.unwish, q⟩) fun _ _ z => False.elim z
theorem PSs.nox {st : List Stmt} {t : TS} (h : PSs X.nox st t) : PSs X st t := fun pins s σ H D I hw =>
  wpAny_mono (h pins s σ H D (I.wish _) hw) (fun _ _ q => q.unwish) fun _ _ z => False.elim z
end

/-! ### blocks and small statements -/
section
variable {X : Cx} {st : Stmt} {rest : List Stmt} {t u : TS} {e : Expr} {te : TE} {pos : Pos}
def tNext : TS := fun D σ H => D.nx σ H
def tSeq (t u : TS) : TS := fun D σ H => t { D with nx := u D } σ H
theorem pss_nil : PSs X [] tNext := fun _ _ σ H _ I h => wpAny_execs_nil ⟨σ, H, I, h⟩
theorem pss_cons (h1 : PS X st t) (h2 : PSs X rest u) : PSs X (st :: rest) (tSeq t u) := by
  intro pins s σ H D I h
  refine wpAny_execs_cons (thn (h1 pins s σ H { D with nx := u D } I h) fun f s1 q => ?_)
  cases f with
  | next =>
    obtain ⟨σ', H', I', q⟩ := q
    exact h2 pins s1 σ' H' D I' q
  | ret v => exact q
  | brk => exact q
  | cont => exact q
theorem pss_one (h1 : PS X st t) : PSs X [st] t := by
  intro pins s σ H D I h
  refine wpAny_execs_cons (thn (h1 pins s σ H D I h) fun f s1 q => ?_)
  cases f with
  | next => exact wpAny_execs_nil q
  | ret v => exact q
  | brk => exact q
  | cont => exact q
def tBreak : TS := fun D σ H => D.bk σ H
def tCont : TS := fun D σ H => D.ct σ H
theorem ps_pass : PS X (.Pass pos) tNext := fun _ _ σ H _ I h => wpAny_Pass ⟨σ, H, I, h⟩
theorem ps_break : PS X (.Break pos) tBreak := fun _ _ σ H _ I h => wpAny_Break ⟨σ, H, I, h⟩
theorem ps_continue : PS X (.Continue pos) tCont := fun _ _ σ H _ I h => wpAny_Continue ⟨σ, H, I, h⟩
/-- in a def's body nothing is shown -/
theorem Inv.quiet {pins : List (Addr × Obj)} {σ : St} {H : Hp} {s : Shared} (I : Inv X pins σ H s) : interactive X.env = false := by simp [interactive, I.ok.kind]
/-- a docstring -/
theorem ps_doc {x j pos pos'} : PS X (.Expr (.Constant (.str x) j pos) pos') tNext := fun _ s σ H _ I h => wpAny_Expr (Calls.Constant_str (show SP X _ _ .next { s with toks := s.toks + 1 } from ⟨σ, H, I.tok _, h⟩)) I.quiet
/-- an expression whose value is dropped -/
def tDrop (te : TE) : TS := fun D σ H => te σ H fun _ H1 => D.nx σ H1
theorem ps_expr (he : PE X e te) (hs : swapsWith e none pos.line X.env = pure false := by rfl) : PS X (.Expr e pos) (tDrop te) := by
  intro pins s σ H D I h
  exact wpAny_Expr_any (thn (he pins s σ H _ I h) fun v s1 ⟨x, H1, I1, r1, q1⟩ => ⟨σ, H1, I1, q1⟩) I.quiet hs
def tRet (te : TE) : TS := fun D σ H => te σ H D.rt
theorem ps_ret (he : PE X e te) : PS X (.Return (some e) pos) (tRet te) := by
  intro pins s σ H D I h
  exact wpAny_Return_some (thn (he pins s σ H _ I h) fun v s1 ⟨x, H1, I1, r1, q1⟩ => ⟨x, σ, H1, I1, r1, q1⟩)
def tRetN : TS := fun D _ H => D.rt .non H
theorem ps_retN : PS X (.Return none pos) tRetN := fun _ _ σ H _ I h => wpAny_Return_none ⟨.non, σ, H, I, rfl, h⟩
def tIfS (c : TT) (t u : TS) : TS := fun D σ H => c σ H fun b H1 => if b = true then t D σ H1 else u D σ H1
theorem ps_if {c : Expr} {a b : List Stmt} {tc : TT} (hc : PT X c tc) (ha : PSs X a t) (hb : PSs X b u) : PS X (.If c a b pos) (tIfS tc t u) := by
  intro pins s σ H D I h
  refine wpAny_If (thn (hc pins s σ H _ I h) fun d s1 ⟨H1, I1, q1⟩ => ?_)
  cases d with
  | true => exact ha pins s1 σ H1 D I1 q1
  | false => exact hb pins s1 σ H1 D I1 q1
/-- code that the proof never comes to -/
def tNever : TS := fun _ _ _ => False
theorem ps_never : PS X st tNever := fun _ _ _ _ _ _ h => h.elim
theorem pss_never {sts : List Stmt} : PSs X sts tNever := fun _ _ _ _ _ _ h => h.elim
end

/-! ### targets -/
abbrev TG := V → St → Hp → (St → Hp → Prop) → Prop
abbrev TGs := List V → St → Hp → (St → Hp → Prop) → Prop
def PG (X : Cx) (target : Expr) (t : TG) : Prop :=
  ∀ (pins : List (Addr × Obj)) (s : Shared) (σ : St) (H : Hp) (v : V) (u : Value) (Q : St → Hp → Prop), Inv X pins σ H s → RelV v u → t v σ H Q →
    wpAny (model X.prog X.w) X.A (assign target X.env u) (fun _ s' => ∃ σ' H', Inv X pins σ' H' s' ∧ Q σ' H') X.xe s
/-- several targets, one after another -/
def PGs (X : Cx) (ts : List Expr) (t : TGs) : Prop :=
  ∀ (pins : List (Addr × Obj)) (s : Shared) (σ : St) (H : Hp) (vs : List V) (us : List Value) (Q : St → Hp → Prop), Inv X pins σ H s → Vals vs us → t vs σ H Q →
    wpAny (model X.prog X.w) X.A (assignInOrder ((assignEach ts X.env).map (·.2)) us) (fun _ s' => ∃ σ' H', Inv X pins σ' H' s' ∧ Q σ' H') X.xe s
/-- o[i] = v, by values -/
abbrev TSet := V → V → V → Hp → (Hp → Prop) → Prop
def PSet (X : Cx) (t : TSet) : Prop :=
  ∀ (pins : List (Addr × Obj)) (s : Shared) (σ : St) (H : Hp) (o i v : V) (ov iv u : Value) (Q : Hp → Prop), Inv X pins σ H s → RelV o ov → RelV i iv → RelV v u → t o i v H Q →
    wpAny (model X.prog X.w) X.A (setItem ov iv u) (fun _ s' => ∃ H', Inv X pins σ H' s' ∧ Q H') X.xe s
/-- a op= b, by values -/
abbrev TIp := V → V → Hp → VK → Prop
def PIp (X : Cx) (op : Operator) (t : TIp) : Prop :=
  ∀ (pins : List (Addr × Obj)) (s : Shared) (σ : St) (H : Hp) (x y : V) (v u : Value) (Q : VK), Inv X pins σ H s → RelV x v → RelV y u → t x y H Q →
    wpAny (model X.prog X.w) X.A (inplaceOp op v u) (EP X pins σ Q) X.xe s
section
variable {X : Cx} {pos : Pos}
def gName (i : Nat) : TG := fun v σ H Q => Q (σ.set i (some v)) H
theorem pg_name {i : Nat} {x : Str} (hN : X.N.Nodup) (hi : X.N[i]? = some x) (hx : Loc X.env.scope x) (hf : X.fn x = true ∨ X.env.scope.names.lookup x = some .local := by first | exact .inl rfl | exact .inr rfl | assumption) : PG X (.Name x pos) (gName i) := by
  intro pins s σ H v u Q I r h
  exact wpAny_assign_Name (store_ok I hN hi hx r (fun s' I' => ⟨_, H, I', h⟩) hf)
def gNil : TGs := fun vs σ H Q => vs = [] ∧ Q σ H
def gCons (t : TG) (u : TGs) : TGs := fun vs σ H Q => ∃ v r, vs = v :: r ∧ t v σ H fun σ' H' => u r σ' H' Q
theorem pgs_nil : PGs X [] gNil := by
  intro pins s σ H vs us Q I r h
  obtain ⟨e, h⟩ := h
  subst e
  cases r
  exact assignInOrder_nil ⟨σ, H, I, h⟩
theorem pgs_cons {e : Expr} {es : List Expr} {t : TG} {u : TGs} (h1 : PG X e t) (h2 : PGs X es u)
    (hs : (assignEach (e :: es) X.env).map (·.2) = assign e X.env :: (assignEach es X.env).map (·.2) := by rfl) : PGs X (e :: es) (gCons t u) := by
  intro pins s σ H vs us Q I r h
  obtain ⟨v, vr, e1, h⟩ := h
  subst e1
  cases r with
  | cons r rr =>
    rw [hs]
    refine assignInOrder_cons (thn (h1 pins s σ H _ _ _ I r h) fun _ s1 ⟨σ1, H1, I1, q1⟩ => ?_)
    exact h2 pins s1 σ1 H1 _ _ Q I1 rr q1
/-- (a, b, ..) = a tuple of that length -/
def gTup (K : PySem.W.Frag) (n : Nat) (t : TGs) : TG := fun v σ H Q => ∃ a xs, v = .ref a ∧ SqT K H a xs ∧ xs.length = n ∧ t xs σ H Q
theorem pg_tup {es : List Expr} {k : Nat} {t : TGs} {n : Nat} (hc : X.calm = true) (h : PGs X es t)
    (hn : (assignEach es X.env).length = n := by rfl) (hst : (assignEach es X.env).findIdx? (·.1) = none := by rfl) : PG X (.Tuple es k pos) (gTup X.K n t) := by
  intro pins s σ H v u Q I r hw
  obtain ⟨a, xs, e1, hq, hl, hw⟩ := hw
  subst e1
  cases r
  obtain ⟨its, rv, ht, hz⟩ := I.tuple hq
  refine assign_Tuple_tuple (I.ok.hd hc) ht (by simp [hn, ← hl, rv.length]) hst fun h' hx => ?_
  have I1 : Inv X pins σ H { s with heap := h' } := I.kept (t' := s.toks) fun b o e => hx b o (Nat.ne_of_lt (Heap.lt_size e)) e
  exact h pins _ σ H xs _ Q I1 (by simpa using rv) hw
/-- o[i] = .. -/
def gSub (to ti : TE) (t : TSet) : TG := fun v σ H Q => to σ H fun o H1 => ti σ H1 fun i H2 => t o i v H2 fun H3 => Q σ H3
theorem pg_sub {o i : Expr} {to ti : TE} {t : TSet} (ho : PE X o to) (hi : PE X i ti) (hs : PSet X t)
    (ha : ∀ v, assign (.Subscript o i pos) X.env v = (do
      let ov ← holding [v] (eval o X.env)
      let iv ← holding [v, ov] (eval i X.env)
      standAt pos
      holding [v, ov, iv] (setItem ov iv v)
      release [v, ov, iv] []) := by intro _; rfl) : PG X (.Subscript o i pos) (gSub to ti t) := by
  intro pins s σ H v u Q I r h
  rw [ha]
  refine wpAny_bind (wpAny_holding (thn (ho pins s σ H _ I h) fun ov s1 ⟨x, H1, I1, r1, q1⟩ => ?_))
  refine wpAny_bind (wpAny_holding (thn (hi pins s1 σ H1 _ I1 q1) fun iv s2 ⟨y, H2, I2, r2, q2⟩ => ?_))
  refine wpAny_bind (wpAny_standAt (wpAny_bind (wpAny_holding (thn (hs pins s2 σ H2 x y v ov iv u _ I2 r1 r2 r q2) fun _ s3 ⟨H3, I3, q3⟩ => ?_))))
  exact wpAny_release ⟨σ, H3, I3, q3⟩
/-- target = value -/
def tAsg (te : TE) (g : TG) : TS := fun D σ H => te σ H fun x H1 => g x σ H1 D.nx
theorem ps_asg {tg e : Expr} {te : TE} {g : TG} (he : PE X e te) (hg : PG X tg g) (hs : swapsWithSole [tg] e pos.line X.env = pure false := by rfl) (hw : swappedStores [tg] e X.env = pure none := by rfl)
    (h1 : (assignEach [tg] X.env).map (·.2) = [assign tg X.env] := by rfl) : PS X (.Assign [tg] e pos) (tAsg te g) := by
  intro pins s σ H D I h
  refine wpAny_Assign_stores (thn (he pins s σ H _ I h) fun v s1 ⟨x, H1, I1, r1, q1⟩ => ?_) hs hw
  rw [h1]
  exact thn (hg pins s1 σ H1 x v _ I1 r1 q1) fun _ s2 q => q
/-- name = value -/
theorem ps_set {i : Nat} {x : Str} {e : Expr} {te : TE} {pos' : Pos} (hN : X.N.Nodup) (hi : X.N[i]? = some x) (hx : Loc X.env.scope x) (he : PE X e te) (hs : swapsWith e (some (.Name x pos')) pos.line X.env = pure false := by rfl) (hf : X.fn x = true ∨ X.env.scope.names.lookup x = some .local := by first | exact .inl rfl | exact .inr rfl | assumption) :
    PS X (.Assign [.Name x pos'] e pos) (tAsg te (gName i)) := by
  intro pins s σ H D I h
  refine wpAny_Assign_Name (thn (he pins s σ H _ I h) fun v s1 ⟨y, H1, I1, r1, q1⟩ => ?_) hs
  exact store_ok I1 hN hi hx r1 (fun s2 I2 => ⟨_, H1, I2, q1⟩) hf
/-- a, b = x, y with plain local names: stored from the right; the pair itself is not tracked (the opening rows as in PyProof/Rows/TupAssign.lean:23) -/
def tPar (i j : Nat) (ta : TA) : TS := fun D σ H => ta σ H fun vs H1 => ∃ v w, vs = [v, w] ∧ D.nx ((σ.set i (some v)).set j (some w)) H1
theorem ps_par {i j : Nat} {x y : Str} {a b : Expr} {ta : TA} {px py pt : Pos} {kt k2 pt2} (hc : X.calm = true) (hN : X.N.Nodup) (hi : X.N[i]? = some x) (hj : X.N[j]? = some y) (hij : i ≠ j)
    (hx : X.env.scope.names.lookup x = some .local) (hy : X.env.scope.names.lookup y = some .local) (ha : PA X [a, b] ta)
    (hw : swappedStores [.Tuple [.Name x px, .Name y py] kt pt] (.Tuple [a, b] k2 pt2) X.env = pure (some [x, y]))
    (hs : swapsWithSole [.Tuple [.Name x px, .Name y py] kt pt] (.Tuple [a, b] k2 pt2) pos.line X.env = pure false := by rfl) :
    PS X (.Assign [.Tuple [.Name x px, .Name y py] kt pt] (.Tuple [a, b] k2 pt2) pos) (tPar i j ta) := by
  intro pins s σ H D I h
  rw [exec_Assign_arm]
  refine wpAny_bind (wpAny_standAt ?_)
  rw [hs]
  refine wpAny_bind (wpAny_pure ?_)
  rw [if_neg (by decide)]
  refine wpAny_bind (Tuple_ (thn (ha _ pins s σ H _ I h) fun us s1 ⟨vs, H1, I1, r1, q1⟩ => ?_))
  obtain ⟨v, w, e1, q1⟩ := q1
  subst e1
  obtain ⟨u1, u2, rfl, rv, rw'⟩ : ∃ u1 u2, us = [u1, u2] ∧ RelV v u1 ∧ RelV w u2 := by
    cases r1 with
    | cons p q =>
      cases q with
      | cons p' q' =>
        cases q'
        exact ⟨_, _, rfl, p, p'⟩
  refine wpAny_newObj_type ?_ (by show 2 ≤ sizeLine; decide)
  have I2 : Inv X pins σ H1 { s1 with heap := s1.heap.push { cls := .type "tuple", data := .seq [u1, u2].toArray } } := I1.kept (t' := s1.toks) fun b o e => Heap.get?_push_of_some _ e
  rw [hw]
  refine wpAny_bind (wpAny_pure ?_)
  show wpAny (model X.prog X.w) X.A (do rule "assign.swapped-stores"; let items ← unpackItems (.ref s1.heap.objs.size) 2 none; assignInOrder [fun v => bindName X.env y v, fun v => bindName X.env x v] items.reverse; pure Flow.next) _ _ _
  refine wpAny_bind (wpAny_rule (wpAny_bind (unpackItems_tuple (items := #[u1, u2]) (I.ok.hd hc) (IsTup.new s1.heap _) fun h' hx' => ?_)))
  have I3 := I2.kept (h' := h') (t' := s1.toks) fun b o e => hx' b o (Nat.ne_of_lt (Heap.lt_size e)) e
  show wpAny _ _ (assignInOrder [fun v => bindName X.env y v, fun v => bindName X.env x v] [u2, u1] >>= fun _ => pure Flow.next) _ _ _
  refine wpAny_bind (assignInOrder_cons (wpAny_bindName (store_ok I3 hN hj (.inl hy) rw' (fun s2 I4 => ?_) (.inr hy))))
  refine assignInOrder_cons (wpAny_bindName (store_ok I4 hN hi (.inl hx) rv (fun s3 I5 => assignInOrder_nil (wpAny_pure ?_)) (.inr hx)))
  rw [List.set_comm _ _ (Ne.symm hij)] at I5
  exact ⟨_, H1, I5, q1⟩
/-- name op= e -/
def tAug (i : Nat) (te : TE) (ti : TIp) : TS := fun D σ H => ∃ x, σ[i]? = some (some x) ∧ te σ H fun y H1 => ti x y H1 fun z H2 => D.nx (σ.set i (some z)) H2
theorem ps_aug {i : Nat} {x : Str} {e : Expr} {te : TE} {op : Operator} {ti : TIp} {pos' : Pos} (hN : X.N.Nodup) (hi : X.N[i]? = some x) (hx : Loc X.env.scope x) (he : PE X e te) (ho : PIp X op ti) (hf : X.fn x = true ∨ X.env.scope.names.lookup x = some .local := by first | exact .inl rfl | exact .inr rfl | assumption) :
    PS X (.AugAssign (.Name x pos') op e pos) (tAug i te ti) := by
  intro pins s σ H D I h
  obtain ⟨v, e1, h⟩ := h
  obtain ⟨m, hn, hl⟩ := I.loc
  have vis : Vis X.env.scope x := by rcases hx with k | k; exact .inl k; exact .inr (.inl k)
  obtain ⟨u, r, l⟩ := hl i x v hi e1 vis
  refine wpAny_AugAssign_Name ?_
  have go : wpAny (model X.prog X.w) X.A (eval e X.env) (fun w s₂ => wpAny (model X.prog X.w) X.A (inplaceOp op u w) (fun r s₃ => wpAny (model X.prog X.w) X.A (storeName X.env x r) (fun _ => SP X pins D .next) X.xe s₃) X.xe s₂) X.xe s := by
    refine thn (he pins s σ H _ I h) fun w s1 ⟨y, H1, I1, r1, q1⟩ => ?_
    refine thn (ho pins s1 σ H1 v y u w _ I1 r r1 q1) fun z s2 ⟨zv, H2, I2, r2, q2⟩ => ?_
    exact store_ok I2 hN hi hx r2 (fun s3 I3 => ⟨_, H2, I3, q2⟩) hf
  rcases l with ⟨hk, hm⟩ | ⟨hk, c, hc, hcell⟩
  · exact wpAny_loadName_local I.ok.kind hk hn hm go
  · rcases hk with hk | hk
    · exact wpAny_loadName_cell I.ok.kind hk hc hcell go
    · rcases hx with k | k
      · have : X.env.scope.names.lookup x = some .free := hk
        rw [k] at this; cases this
      · have : X.env.scope.names.lookup x = some .free := hk
        rw [k] at this; cases this
/-- o[i] op= e -/
def tAugS (to ti te : TE) (tget : V → V → Hp → VK → Prop) (tip : TIp) (tset : TSet) : TS := fun D σ H => to σ H fun o H1 => ti σ H1 fun i H2 => tget o i H2 fun x H3 => te σ H3 fun y H4 => tip x y H4 fun z H5 => tset o i z H5 fun H6 => D.nx σ H6
/-- o[i], by values -/
def PGet (X : Cx) (t : V → V → Hp → VK → Prop) : Prop :=
  ∀ (pins : List (Addr × Obj)) (s : Shared) (σ : St) (H : Hp) (o i : V) (ov iv : Value) (Q : VK), Inv X pins σ H s → RelV o ov → RelV i iv → t o i H Q →
    wpAny (model X.prog X.w) X.A (getItem ov iv) (EP X pins σ Q) X.xe s
theorem ps_augS {o i e : Expr} {to ti te : TE} {tget : V → V → Hp → VK → Prop} {tip : TIp} {tset : TSet} {op : Operator} {tpos : Pos} (ho : PE X o to) (hi : PE X i ti) (hg : PGet X tget) (he : PE X e te) (hp : PIp X op tip) (hs : PSet X tset)
    (ha : ∀ ov iv new, augStore i ov iv new = (do holding [new, ov, iv] (setItem ov iv new); release [new, ov, iv] []; pure .next) := by intros; rfl) : PS X (.AugAssign (.Subscript o i tpos) op e pos) (tAugS to ti te tget tip tset) := by
  intro pins s σ H D I h
  refine wpAny_AugAssign_SubscriptAny (thn (ho pins s σ H _ I h) fun ov s1 ⟨x1, H1, I1, r1, q1⟩ => ?_) ha
  refine thn (hi pins s1 σ H1 _ I1 q1) fun iv s2 ⟨x2, H2, I2, r2, q2⟩ => ?_
  refine thn (hg pins s2 σ H2 x1 x2 ov iv _ I2 r1 r2 q2) fun old s3 ⟨x3, H3, I3, r3, q3⟩ => ?_
  refine thn (he pins s3 σ H3 _ I3 q3) fun v s4 ⟨x4, H4, I4, r4, q4⟩ => ?_
  refine thn (hp pins s4 σ H4 x3 x4 old v _ I4 r3 r4 q4) fun new s5 ⟨x5, H5, I5, r5, q5⟩ => ?_
  exact thn (hs pins s5 σ H5 x1 x2 x5 ov iv new _ I5 r1 r2 r5 q5) fun _ s6 ⟨H6, I6, q6⟩ => ⟨σ, H6, I6, q6⟩
/-- ints -/
def ipI (f : Int → Int → Int) : TIp := fun x y H Q => ∃ i j, x = .int i ∧ y = .int j ∧ Q (.int (f i j)) H
theorem ip_add : PIp X .Add (ipI fun i j => i + j) := by
  intro pins s σ H x y v u Q I r1 r2 h
  obtain ⟨i, j, e1, e2, q⟩ := h
  subst e1; subst e2
  obtain ⟨t, rfl⟩ := r1
  obtain ⟨t', rfl⟩ := r2
  exact iadd_int ⟨.int _, H, I.tok _, ⟨_, rfl⟩, q⟩
theorem ip_sub : PIp X .Sub (ipI fun i j => i - j) := by
  intro pins s σ H x y v u Q I r1 r2 h
  obtain ⟨i, j, e1, e2, q⟩ := h
  subst e1; subst e2
  obtain ⟨t, rfl⟩ := r1
  obtain ⟨t', rfl⟩ := r2
  exact isub_int ⟨.int _, H, I.tok _, ⟨_, rfl⟩, q⟩
end

/-! ### while -/
section
variable {X : Cx} {pos : Pos}
/-- the invariant W with its measure -/
def tWhile (c : TT) (tb : TS) : TS := fun D σ H => ∃ W : Nat → St → Hp → Prop, (∃ m, W m σ H) ∧ ∀ m σ H, W m σ H →
  c σ H fun b H1 => if b = true then ∃ N : St → Hp → Prop, (∀ σ' H', N σ' H' → ∃ m', m' < m ∧ W m' σ' H') ∧ tb { D with nx := N, ct := N, bk := D.nx } σ H1 else D.nx σ H1
theorem ps_while {c : Expr} {body : List Stmt} {tc : TT} {tb : TS} (hp : PassesOwn (model X.prog X.w) X.A X.env X.xe) (hc : PT X c tc) (hb : PSs X body tb) : PS X (.While c body [] pos) (tWhile tc tb) := by
  intro pins s σ H D I h
  obtain ⟨W, ⟨m0, w0⟩, turn⟩ := h
  refine wpAny_While (codeAny_whileLoop (fun n s' => ∃ σ' H', Inv X pins σ' H' s' ∧ W n σ' H') ?_ m0 ⟨σ, H, I, w0⟩)
  rintro n s1 ⟨σ1, H1, I1, w1⟩
  refine wpAny_passesOwn hp (thn (hc pins s1 σ1 H1 _ I1 (turn n σ1 H1 w1)) fun b s2 ⟨H2, I2, q2⟩ => ?_)
  cases b with
  | true =>
    obtain ⟨N, hN, q2⟩ := q2
    rw [if_pos rfl]
    refine wpAny_passesOwn hp (thn (hb pins s2 σ1 H2 _ I2 q2) fun f s3 q3 => ?_)
    cases f with
    | next =>
      obtain ⟨σ3, H3, I3, n3⟩ := q3
      obtain ⟨m', hm, w3⟩ := hN σ3 H3 n3
      exact ⟨m', hm, σ3, H3, I3, w3⟩
    | cont =>
      obtain ⟨σ3, H3, I3, n3⟩ := q3
      obtain ⟨m', hm, w3⟩ := hN σ3 H3 n3
      exact ⟨m', hm, σ3, H3, I3, w3⟩
    | brk => exact q3
    | ret v => exact q3
  | false =>
    rw [if_neg Bool.false_ne_true]
    exact wpAny_execs_nil ⟨σ1, H2, I2, q2⟩
end

/-! ### what a loop or a comprehension walks -/
/-- at turn i: it yields x (the heap may grow), or it stops -/
structure It where
  go : Nat → Hp → Prop
  yld : Nat → Hp → V → Hp → Prop
  stop : Nat → Hp → Prop
/-- the iterator's own objects may turn: they are not the frame's, not pinned, younger than the entry (or a comprehension's own) -/
def FpOk (X : Cx) (pins : List (Addr × Obj)) (H : Hp) (b : Addr) : Prop :=
  H b = none ∧ b ≠ X.env.locals ∧ b ∉ X.fs ∧ (b ∈ X.ex ∨ X.s₀.heap.objs.size ≤ b) ∧ (∀ x c, X.env.cells.lookup x = some c → c ≠ b) ∧ ∀ p ∈ X.pn ++ pins, p.1 ≠ b
theorem Inv.fpOk {X : Cx} {pins : List (Addr × Obj)} {σ : St} {H H' : Hp} {s : Shared} {b : Addr} (I : Inv X pins σ H s) (hb : s.heap.objs.size ≤ b) (hn : H' b = none) : FpOk X pins H' b := by
  refine ⟨hn, Nat.ne_of_gt (Nat.lt_of_lt_of_le I.lt hb), I.nofs hb, .inr (Nat.le_trans I.sz hb), fun x c e z => ?_, fun p hp z => ?_⟩
  · obtain ⟨v, q⟩ := I.cell x c e
    exact absurd (Nat.lt_of_lt_of_le q.lt (by rw [z]; exact hb)) (Nat.lt_irrefl _)
  · exact absurd (Nat.lt_of_lt_of_le (Heap.lt_size (I.pin p hp).1) (by rw [z]; exact hb)) (Nat.lt_irrefl _)
structure Turn (P : Program) (w : World) (K : PySem.W.Frag) (tg : Expr) (J : It) (fp : List Addr) (it : Addr) (tn : Nat → Heap → Prop) : Prop where
  mem : it ∈ fp
  obj : ∀ i h, tn i h → ∀ b ∈ fp, ∃ o, h.get? b = some o ∧ ∀ v, o.data ≠ .cell v
  keep : ∀ i h h', tn i h → (∀ b ∈ fp, ∀ o, h.get? b = some o → h'.get? b = some o) → tn i h'
  item : ∀ (X : Cx), X.prog = P → X.w = w → X.K = K → X.calm = true → ∀ (i : Nat) (pins : List (Addr × Obj)) (s : Shared) (σ : St) (H : Hp) (E : Value → Shared → Prop), Inv X pins σ H s → (∀ b ∈ fp, FpOk X pins H b) → tn i s.heap → J.go i H →
    wpAny (model P w) X.A (pyNext (.ref it)) (fun r s1 => ∃ u, r = some u ∧
      wpAny (model P w) X.A (letOwnedTupleGo tg (.ref it) u) (fun _ s2 => ∃ x H', Inv X pins σ H' s2 ∧ RelV x u ∧ J.yld i H x H' ∧ tn (i + 1) s2.heap ∧ ∀ b ∈ fp, H' b = none) E s1) E s
  done : ∀ (X : Cx), X.prog = P → X.w = w → X.K = K → X.calm = true → ∀ (i : Nat) (pins : List (Addr × Obj)) (s : Shared) (σ : St) (H : Hp) (E : Value → Shared → Prop), Inv X pins σ H s → (∀ b ∈ fp, FpOk X pins H b) → tn i s.heap → J.stop i H →
    wpAny (model P w) X.A (pyNext (.ref it)) (fun r s1 => r = none ∧ Inv X pins σ H s1) E s
  self : ∀ (A : Around) (i : Nat) (s : Shared) (Q : Value → Shared → Prop) (E : Value → Shared → Prop), tn i s.heap → Q (.ref it) s → wpAny (model P w) A (pyIter (.ref it)) Q E s
abbrev TI := St → Hp → (It → Hp → Prop) → Prop
/-- an iterator has come -/
def PIE (X : Cx) (pins : List (Addr × Obj)) (σ : St) (tg : Expr) (R : It → Hp → Prop) (itv : Value) (s2 : Shared) : Prop :=
  ∃ (it : Addr) (fp : List Addr) (tn : Nat → Heap → Prop) (J : It) (H' : Hp), itv = .ref it ∧ Inv X pins σ H' s2 ∧ Turn X.prog X.w X.K tg J fp it tn ∧ tn 0 s2.heap ∧ (∀ b ∈ fp, FpOk X pins H' b) ∧ R J H'
def PI (X : Cx) (tg iter : Expr) (wi : TI) : Prop :=
  ∀ (pins : List (Addr × Obj)) (s : Shared) (σ : St) (H : Hp) (R : It → Hp → Prop), Inv X pins σ H s → wi σ H R →
    wpAny (model X.prog X.w) X.A (eval iter X.env) (fun v s1 => wpAny (model X.prog X.w) X.A (pyIter v) (PIE X pins σ tg R) X.xe s1) X.xe s

/-- the step ahead of the store is nothing for an iterator that keeps no tuple -/
theorem go_of {M : Model} {A : Around} {E : Value → Shared → Prop} {s : Shared} {tg : Expr} {it : Addr} {u : Value} {o : Obj} {n : String} {vs : Array Value} {Q : Unit → Shared → Prop} (ho : s.heap.get? it = some o) (hc : o.cls = .type n) (hd : o.data = .fields vs)
    (hn : ["enumerate", "zip", "dict_itemiterator", "dict_reverseitemiterator", "odict_iterator", "itertools.zip_longest", "itertools.pairwise"].contains n = false) (hQ : Q () s) : wpAny M A (letOwnedTupleGo tg (.ref it) u) Q E s := by
  unfold letOwnedTupleGo
  cases tg <;> first
    | exact wpAny_pure hQ
    | (cases u <;> first
        | exact wpAny_pure hQ
        | (refine wpAny_bind (wpAny_load ho ?_)
           rw [hc, hd]
           show wpAny M A (if (["enumerate", "zip", "dict_itemiterator", "dict_reverseitemiterator", "odict_iterator", "itertools.zip_longest", "itertools.pairwise"].contains n && vs[0]? == some (rawInt _)) = true then _ else _) Q E s
           rw [if_neg (by intro h; rw [hn, Bool.false_and] at h; cases h)]
           exact wpAny_pure hQ))

/-- the list at a, as it stands at each turn (a loop may append to it) -/
def Itl (K : PySem.W.Frag) (a : Addr) : It :=
  ⟨fun i H => ∃ xs x, SqL K H a xs ∧ xs[i]? = some x, fun i H x H' => H' = H ∧ ∀ xs, SqL K H a xs → xs[i]? = some x, fun i H => ∃ xs, SqL K H a xs ∧ xs.length ≤ i⟩
def Itt (K : PySem.W.Frag) (a : Addr) : It :=
  ⟨fun i H => ∃ xs x, SqT K H a xs ∧ xs[i]? = some x, fun i H x H' => H' = H ∧ ∀ xs, SqT K H a xs → xs[i]? = some x, fun i H => ∃ xs, SqT K H a xs ∧ xs.length ≤ i⟩
/-- lo, lo + 1, .. (n of them) -/
def Itr (lo : Int) (n : Nat) : It := ⟨fun i _ => i < n, fun i H x H' => H' = H ∧ x = .int (lo + i), fun i _ => n ≤ i⟩
theorem turn_list {P : Program} {w : World} {K : PySem.W.Frag} {tg : Expr} (a it : Addr) : Turn P w K tg (Itl K a) [it] it (fun i h => h.IsListIter it a i) where
  mem := by simp
  obj := fun i h st b hb => by
    have e : b = it := by simpa using hb
    subst e
    obtain ⟨o, e, c, d⟩ := st
    exact ⟨o, e, fun v z => by rw [d] at z; cases z⟩
  keep := fun i h h' st k => st.at fun o e => k it (by simp) o e
  item := by
    intro X hP hw hK hc i pins s σ H E I hf st hg
    subst hP hw hK
    obtain ⟨xs, x, hq, hx⟩ := hg
    obtain ⟨its, rv, p, hz⟩ := I.list hq
    obtain ⟨u, hu, ru⟩ := rv.get hx
    obtain ⟨f0, f1, f2, f3, f4, f5⟩ := hf it (by simp)
    refine wpAny_pyNext_list_item st p.isList (x := u) (by simpa using hu) fun h' st' sb => ?_
    have I1 : Inv X pins σ H { s with heap := h' } := I.turned (t' := s.toks) (fun b o hb e => (sb.2 b hb).trans e) f0 f1 f3 f4 f5
    obtain ⟨o, e, c, d⟩ := id st'
    exact ⟨u, rfl, go_of (s := { s with heap := h' }) e c d (by decide) ⟨x, H, I1, ru, ⟨rfl, fun ys hy => by rw [I.list_inj hy hq]; exact hx⟩, st', fun b hb => (hf b hb).1⟩⟩
  done := by
    intro X hP hw hK hc i pins s σ H E I hf st hg
    subst hP hw hK
    obtain ⟨xs, hq, hx⟩ := hg
    obtain ⟨its, rv, p, hz⟩ := I.list hq
    obtain ⟨f0, f1, f2, f3, f4, f5⟩ := hf it (by simp)
    have hl := rv.length
    exact wpAny_pyNext_list_end (I.ok.hd hc) st p.isList (by simp; omega) fun h' eb => ⟨rfl, I.turned (t' := s.toks) (fun b o hb e => eb b o hb e) f0 f1 f3 f4 f5⟩
  self := fun _ _ _ _ _ st h => wpAny_pyIter_listiter st h
theorem turn_tuple {P : Program} {w : World} {K : PySem.W.Frag} {tg : Expr} (a it : Addr) : Turn P w K tg (Itt K a) [it] it (fun i h => h.IsTupleIter it a i) where
  mem := by simp
  obj := fun i h st b hb => by
    have e : b = it := by simpa using hb
    subst e
    obtain ⟨o, e, c, d⟩ := st
    exact ⟨o, e, fun v z => by rw [d] at z; cases z⟩
  keep := fun i h h' st k => st.at fun o e => k it (by simp) o e
  item := by
    intro X hP hw hK hc i pins s σ H E I hf st hg
    subst hP hw hK
    obtain ⟨xs, x, hq, hx⟩ := hg
    obtain ⟨its, rv, p, hz⟩ := I.tuple hq
    obtain ⟨u, hu, ru⟩ := rv.get hx
    obtain ⟨f0, f1, f2, f3, f4, f5⟩ := hf it (by simp)
    refine wpAny_pyNext_tuple_item st (show s.heap.IsTuple a its.toArray from p) (x := u) (by simpa using hu) fun h' st' sb => ?_
    have I1 : Inv X pins σ H { s with heap := h' } := I.turned (t' := s.toks) (fun b o hb e => (sb.2 b hb).trans e) f0 f1 f3 f4 f5
    obtain ⟨o, e, c, d⟩ := id st'
    exact ⟨u, rfl, go_of (s := { s with heap := h' }) e c d (by decide) ⟨x, H, I1, ru, ⟨rfl, fun ys hy => by rw [I.tuple_inj hy hq]; exact hx⟩, st', fun b hb => (hf b hb).1⟩⟩
  done := by
    intro X hP hw hK hc i pins s σ H E I hf st hg
    subst hP hw hK
    obtain ⟨xs, hq, hx⟩ := hg
    obtain ⟨its, rv, p, hz⟩ := I.tuple hq
    obtain ⟨f0, f1, f2, f3, f4, f5⟩ := hf it (by simp)
    have hl := rv.length
    exact wpAny_pyNext_tuple_end (I.ok.hd hc) st (show s.heap.IsTuple a its.toArray from p) (by simp; omega) fun h' eb => ⟨rfl, I.turned (t' := s.toks) (fun b o hb e => eb b o hb e) f0 f1 f3 f4 f5⟩
  self := fun _ _ _ _ _ st h => wpAny_pyIter_tupleiter st h
theorem turn_range {P : Program} {w : World} {K : PySem.W.Frag} {tg : Expr} (it : Addr) (lo : Int) (n : Nat) : Turn P w K tg (Itr lo n) [it] it (fun i h => IsRangeIter h it (lo + (i : Nat) * 1) ((n : Int) - (i : Nat)) 1) where
  mem := by simp
  obj := fun i h st b hb => by
    have e : b = it := by simpa using hb
    subst e
    exact ⟨_, st, fun v z => by
      have z' : Data.fields _ = Data.cell v := z
      cases z'⟩
  keep := fun i h h' st k => k it (by simp) _ st
  item := by
    intro X hP hw hK hc i pins s σ H E I hf st hg
    subst hP hw hK
    obtain ⟨f0, f1, f2, f3, f4, f5⟩ := hf it (by simp)
    have W := Walks.range (prog := X.prog) (w := X.w) (I.ok.hd hc) it lo 1 n
    refine W.item i s _ _ hg st fun v h' tk hv st' kk => ?_
    obtain ⟨t, rfl⟩ := hv
    have I1 : Inv X pins σ H { s with heap := h', toks := tk } := I.turned (fun b o hb e => kk b o (by simpa using hb) e) f0 f1 f3 f4 f5
    refine ⟨_, rfl, go_of (s := { s with heap := h', toks := tk }) (n := "range_iterator") st' rfl rfl (by decide) ⟨.int (lo + i), H, I1, ⟨t, ?_⟩, ⟨rfl, rfl⟩, st', fun b hb => (hf b hb).1⟩⟩
    rw [Int.mul_one]
  done := by
    intro X hP hw hK hc i pins s σ H E I hf st hg
    subst hP hw hK
    obtain ⟨f0, f1, f2, f3, f4, f5⟩ := hf it (by simp)
    exact wpAny_pyNext_range_end (I.ok.hd hc) st (by have : n ≤ i := hg; omega) fun h' eb => ⟨rfl, I.turned (t' := s.toks) (fun b o hb e => eb b o hb e) f0 f1 f3 f4 f5⟩
  self := fun _ _ _ _ _ st h => wpAny_pyIter_rangeiter st h
end L2

namespace L2
open PySem PySem.Spec PyProof.Rows
section
variable {X : Cx} {tg : Expr}
def iList (K : PySem.W.Frag) (tl : TE) : TI := fun σ H R => tl σ H fun x H1 => ∃ a, x = .ref a ∧ (∃ xs, SqL K H1 a xs) ∧ R (Itl K a) H1
def iTup (K : PySem.W.Frag) (tl : TE) : TI := fun σ H R => tl σ H fun x H1 => ∃ a, x = .ref a ∧ (∃ xs, SqT K H1 a xs) ∧ R (Itt K a) H1
theorem pi_list {l : Expr} {tl : TE} (hl : PE X l tl) : PI X tg l (iList X.K tl) := by
  intro pins s σ H R I h
  refine thn (hl pins s σ H _ I h) fun v s1 ⟨x, H1, I1, r1, q1⟩ => ?_
  obtain ⟨a, e, ⟨xs, hq⟩, q⟩ := q1
  subst e
  cases r1
  obtain ⟨its, rv, p, hz⟩ := I1.list hq
  refine wpAny_pyIter_list p.isList ?_
  refine ⟨s1.heap.objs.size, [s1.heap.objs.size], _, _, H1, rfl, I1.kept (t' := s1.toks) fun b o e => Heap.get?_push_of_some _ e, turn_list a _, ⟨_, Heap.get?_push_size _ rfl, rfl, rfl⟩, fun b hb => ?_, q⟩
  have e : b = s1.heap.objs.size := by simpa using hb
  subst e
  exact I1.fpOk (Nat.le_refl _) (I1.hok.fresh (Nat.le_refl _))
theorem pi_tup {l : Expr} {tl : TE} (hl : PE X l tl) : PI X tg l (iTup X.K tl) := by
  intro pins s σ H R I h
  refine thn (hl pins s σ H _ I h) fun v s1 ⟨x, H1, I1, r1, q1⟩ => ?_
  obtain ⟨a, e, ⟨xs, hq⟩, q⟩ := q1
  subst e
  cases r1
  obtain ⟨its, rv, p, hz⟩ := I1.tuple hq
  refine wpAny_pyIter_tuple (show s1.heap.IsTuple a its.toArray from p) ?_
  refine ⟨s1.heap.objs.size, [s1.heap.objs.size], _, _, H1, rfl, I1.kept (t' := s1.toks) fun b o e => Heap.get?_push_of_some _ e, turn_tuple a _, ⟨_, Heap.get?_push_size _ rfl, rfl, rfl⟩, fun b hb => ?_, q⟩
  have e : b = s1.heap.objs.size := by simpa using hb
  subst e
  exact I1.fpOk (Nat.le_refl _) (I1.hok.fresh (Nat.le_refl _))
/-- a range object just made, walked -/
theorem range_it {pins : List (Addr × Obj)} {σ : St} {H : Hp} {s : Shared} {R : It → Hp → Prop} {E : Value → Shared → Prop} {lo hi : Int} {t u v : Tok} {tk : Nat} (I : Inv X pins σ H s) (h1 : -(2 ^ 62) ≤ lo) (h2 : lo < 2 ^ 62) (h3 : -(2 ^ 62) ≤ hi) (h4 : hi < 2 ^ 62)
    (q : R (Itr lo (hi - lo).toNat) H) : wpAny (model X.prog X.w) X.A (pyIter (.ref s.heap.objs.size)) (PIE X pins σ tg R) E { s with heap := s.heap.push { cls := .type "range", data := .fields #[.int lo t, .int hi u, .int 1 v] }, toks := tk } := by
  refine wpAny_pyIter_range (IsRange.new ..) (small_one h1 h2 h3 h4) ?_
  have I1 : Inv X pins σ H { s with heap := s.heap.push { cls := .type "range", data := .fields #[.int lo t, .int hi u, .int 1 v] }, toks := tk } := I.kept fun b o e => Heap.get?_push_of_some _ e
  refine ⟨(s.heap.push { cls := .type "range", data := .fields #[.int lo t, .int hi u, .int 1 v] }).objs.size, [(s.heap.push { cls := .type "range", data := .fields #[.int lo t, .int hi u, .int 1 v] }).objs.size], _, _, H, rfl,
    I1.kept (t' := tk) fun b o e => Heap.get?_push_of_some _ e, turn_range _ lo (hi - lo).toNat, ?_, fun b hb => ?_, q⟩
  · have e1 : lo + ((0 : Nat) : Int) * 1 = lo := by simp
    have e2 : (((hi - lo).toNat : Nat) : Int) - ((0 : Nat) : Int) = Builtin.Range.rangeSize lo hi 1 := by rw [rangeSize_one]; split <;> omega
    show IsRangeIter _ _ (lo + ((0 : Nat) : Int) * 1) ((((hi - lo).toNat : Nat) : Int) - ((0 : Nat) : Int)) 1
    rw [e1, e2]
    exact Heap.get?_push_size _ rfl
  · have e : b = (s.heap.push { cls := .type "range", data := .fields #[.int lo t, .int hi u, .int 1 v] }).objs.size := by simpa using hb
    subst e
    exact I1.fpOk (Nat.le_refl _) (I1.hok.fresh (Nat.le_refl _))
def iRng1 (ta : TA) : TI := fun σ H R => ta σ H fun vs H1 => ∃ j : Int, vs = [.int j] ∧ -(2 ^ 62) ≤ j ∧ j < 2 ^ 62 ∧ R (Itr 0 j.toNat) H1
def iRng2 (ta : TA) : TI := fun σ H R => ta σ H fun vs H1 => ∃ i j : Int, vs = [.int i, .int j] ∧ (-(2 ^ 62) ≤ i ∧ i < 2 ^ 62 ∧ -(2 ^ 62) ≤ j ∧ j < 2 ^ 62) ∧ R (Itr i (j - i).toNat) H1
theorem pi_range1 {a : Expr} {ta : TA} {p pos : Pos} (hg : Gl X "range") (hm : X.mg "range" = none) (ha : PA X [a] ta) (hs : starEach [a] X.env = [(false, eval a X.env)] := by rfl) : PI X tg (.Call (.Name "range" p) [a] [] pos) (iRng1 ta) := by
  intro pins s σ H R I h
  refine Call_ (ld_blt I hg hm boot_range (PyProof.Rows.callWith_type1 (thn (ha pos pins s σ H _ I h) fun us s1 ⟨vs, H1, I1, r1, q1⟩ => ?_) hs rfl))
  obtain ⟨j, e, q1, q2, q⟩ := q1
  subst e
  cases r1 with
  | cons r rr =>
    cases rr
    obtain ⟨t, rfl⟩ := r
    exact call_range_1 (range_it I1 (by omega) (by omega) q1 q2 (by simpa using q))
theorem pi_range2 {a b : Expr} {ta : TA} {p pos : Pos} (hg : Gl X "range") (hm : X.mg "range" = none) (ha : PA X [a, b] ta) (hs : starEach [a, b] X.env = [(false, eval a X.env), (false, eval b X.env)] := by rfl) (hs2 : starEach [b] X.env = [(false, eval b X.env)] := by rfl) :
    PI X tg (.Call (.Name "range" p) [a, b] [] pos) (iRng2 ta) := by
  intro pins s σ H R I h
  refine Call_ (ld_blt I hg hm boot_range (PyProof.Rows.callWith_type1 (thn (ha pos pins s σ H _ I h) fun us s1 ⟨vs, H1, I1, r1, q1⟩ => ?_) (by rw [hs, hs2]) (by rw [hs2]; rfl)))
  obtain ⟨i, j, e, ⟨q1, q2, q3, q4⟩, q⟩ := q1
  subst e
  cases r1 with
  | cons r rr =>
    cases rr with
    | cons r' rr =>
      cases rr
      obtain ⟨t, rfl⟩ := r
      obtain ⟨t', rfl⟩ := r'
      exact call_range_2 (range_it I1 q1 q2 q3 q4 q)

/-! ### for -/
/-- W: the invariant by the turn and a measure; N: what the body is to reach -/
def tFor (wi : TI) (g : TG) (tb : TS) : TS := fun D σ H => wi σ H fun J H1 => ∃ W : Nat → Nat → St → Hp → Prop, (∃ m, W 0 m σ H1) ∧ ∀ i m σ H, W i m σ H →
  (J.stop i H ∧ D.nx σ H) ∨ (J.go i H ∧ ∃ N : St → Hp → Prop, (∀ σ' H', N σ' H' → ∃ m', m' < m ∧ W (i + 1) m' σ' H') ∧ ∀ x H', J.yld i H x H' → g x σ H' fun σ2 H2 => tb { D with nx := N, ct := N, bk := D.nx } σ2 H2)
/-- the records at fp as they stand -/
def pinsAt (fp : List Addr) (h : Heap) : List (Addr × Obj) := fp.filterMap fun b => (h.get? b).map fun o => (b, o)
theorem mem_pinsAt {fp : List Addr} {h : Heap} {b : Addr} {o : Obj} (hb : b ∈ fp) (e : h.get? b = some o) : (b, o) ∈ pinsAt fp h := List.mem_filterMap.mpr ⟨b, hb, by rw [e]; rfl⟩
theorem of_pinsAt {fp : List Addr} {h : Heap} {p : Addr × Obj} (hp : p ∈ pinsAt fp h) : p.1 ∈ fp ∧ h.get? p.1 = some p.2 := by
  obtain ⟨b, hb, e⟩ := List.mem_filterMap.mp hp
  cases q : h.get? b with
  | none => rw [q] at e; cases e
  | some o =>
    rw [q] at e
    have e' : (b, o) = p := Option.some.inj e
    subst e'
    exact ⟨hb, q⟩
theorem Inv.pinned {pins : List (Addr × Obj)} {σ : St} {H : Hp} {s : Shared} {fp : List Addr} (I : Inv X pins σ H s) (hf : ∀ b ∈ fp, FpOk X pins H b) (ho : ∀ b ∈ fp, ∃ o, s.heap.get? b = some o ∧ ∀ v, o.data ≠ .cell v) : Inv X (pins ++ pinsAt fp s.heap) σ H s :=
  I.pins_of fun p hp => (List.mem_append.mp hp).elim (fun z => I.pin p (List.mem_append_right _ z)) fun z => by
    obtain ⟨hb, e⟩ := of_pinsAt z
    obtain ⟨f0, f1, f2, _⟩ := hf p.1 hb
    obtain ⟨o, e', d⟩ := ho p.1 hb
    rw [e] at e'; cases e'
    exact ⟨e, f0, f1, f2, d⟩
theorem Inv.unpinned {pins pl : List (Addr × Obj)} {σ : St} {H : Hp} {s : Shared} (I : Inv X (pins ++ pl) σ H s) : Inv X pins σ H s := I.pins_of fun p hp => I.pin p (List.mem_append_right _ (List.mem_append_left _ hp))
theorem ps_for {iter : Expr} {body : List Stmt} {wi : TI} {g : TG} {tb : TS} {pos : Pos} (hp : PassesOwn (model X.prog X.w) X.A X.env X.xe) (hc : X.calm = true) (hi : PI X tg iter wi) (hg : PG X tg g) (hb : PSs X body tb)
    (hs : ∀ x, foldedSetIterable iter X.env x = pure x := by intro _; rfl) : PS X (.For tg iter body [] pos) (tFor wi g tb) := by
  intro pins s σ H D I h
  refine wpAny_For (thn (hi pins s σ H _ I h) fun v s1 h1 => thn h1 fun itv s2 h2 => ?_) hs
  obtain ⟨it, fp, tn, J, H2, e, I2, T, st2, f2, W, ⟨m0, w0⟩, turn⟩ := h2
  subst e
  -- what stays true of the iterator's objects through the loop
  have stat : ∀ {H' : Hp}, (∀ b ∈ fp, H' b = none) → ∀ b ∈ fp, FpOk X pins H' b := fun hn b hb => ⟨hn b hb, (f2 b hb).2⟩
  refine codeAny_forLoop_any (fun n s' => ∃ i σ' H', Inv X pins σ' H' s' ∧ tn i s'.heap ∧ (∀ b ∈ fp, H' b = none) ∧ W i n σ' H') ?_ m0 ⟨0, σ, H2, I2, st2, fun b hb => (f2 b hb).1, w0⟩
  rintro n s3 ⟨i, σ3, H3, I3, st3, fr3, w3⟩
  rcases turn i n σ3 H3 w3 with ⟨stop, qn⟩ | ⟨go, N, hN, step⟩
  · refine wpAny_passesOwn hp (thn (T.done X rfl rfl rfl hc i pins s3 σ3 H3 X.xe I3 (stat fr3) st3 stop) fun r s4 ⟨hr, I4⟩ => ?_)
    subst hr
    exact wpAny_execs_nil ⟨σ3, H3, I4, qn⟩
  · refine wpAny_passesOwn hp (thn (T.item X rfl rfl rfl hc i pins s3 σ3 H3 X.xe I3 (stat fr3) st3 go) fun r s4 ⟨u, hr, h4⟩ => ?_)
    subst hr
    refine wpAny_passesOwn hp (thn h4 fun _ s5 ⟨x, H5, I5, r5, y5, st5, fr5⟩ => ?_)
    have I5' := I5.pinned (stat fr5) (T.obj _ _ st5)
    refine wpAny_passesOwn hp (thn (hg _ s5 σ3 H5 x u _ I5' r5 (step x H5 y5)) fun _ s6 ⟨σ6, H6, I6, q6⟩ => ?_)
    refine wpAny_passesOwn hp (thn (hb _ s6 σ6 H6 _ I6 q6) fun f s7 q7 => ?_)
    have again : ∀ {σ7 : St} {H7 : Hp}, Inv X (pins ++ pinsAt fp s5.heap) σ7 H7 s7 → N σ7 H7 → ∃ m, m < n ∧ ∃ i σ' H', Inv X pins σ' H' s7 ∧ tn i s7.heap ∧ (∀ b ∈ fp, H' b = none) ∧ W i m σ' H' := fun {σ7 H7} I7 n7 => by
      obtain ⟨m', hm, w7⟩ := hN σ7 H7 n7
      refine ⟨m', hm, i + 1, σ7, H7, I7.unpinned, T.keep _ _ _ st5 fun b hb o e => (I7.pin (b, o) (List.mem_append_right _ (List.mem_append_right _ (mem_pinsAt hb e)))).1, fun b hb => ?_, w7⟩
      obtain ⟨o, e, d⟩ := T.obj _ _ st5 b hb
      exact (I7.pin (b, o) (List.mem_append_right _ (List.mem_append_right _ (mem_pinsAt hb e)))).2.1
    cases f with
    | next => obtain ⟨σ7, H7, I7, n7⟩ := q7; exact again I7 n7
    | cont => obtain ⟨σ7, H7, I7, n7⟩ := q7; exact again I7 n7
    | brk => obtain ⟨σ7, H7, I7, q7⟩ := q7; exact ⟨σ7, H7, I7.unpinned, q7⟩
    | ret v => obtain ⟨x7, σ7, H7, I7, r7, q7⟩ := q7; exact ⟨x7, σ7, H7, I7.unpinned, r7, q7⟩
end

/-! ### the forms one uses -/
/-- over a list that the body leaves as it is -/
theorem for_list {K : PySem.W.Frag} {a : Addr} {xs : List V} {g : TG} {tb : TS} {D : Ends} {σ : St} {H : Hp} (Pv : Nat → St → Hp → Prop) (h0 : Pv 0 σ H) (hl : ∀ i σ H, i ≤ xs.length → Pv i σ H → SqL K H a xs)
    (hs : ∀ i x σ H, xs[i]? = some x → Pv i σ H → g x σ H fun σ2 H2 => tb { D with nx := Pv (i + 1), ct := Pv (i + 1), bk := D.nx } σ2 H2) (hd : ∀ σ H, Pv xs.length σ H → D.nx σ H) :
    ∃ W : Nat → Nat → St → Hp → Prop, (∃ m, W 0 m σ H) ∧ ∀ i m σ H, W i m σ H →
      ((Itl K a).stop i H ∧ D.nx σ H) ∨ ((Itl K a).go i H ∧ ∃ N : St → Hp → Prop, (∀ σ' H', N σ' H' → ∃ m', m' < m ∧ W (i + 1) m' σ' H') ∧ ∀ x H', (Itl K a).yld i H x H' → g x σ H' fun σ2 H2 => tb { D with nx := N, ct := N, bk := D.nx } σ2 H2) := by
  refine ⟨fun i m σ H => m = xs.length - i ∧ i ≤ xs.length ∧ Pv i σ H, ⟨xs.length, by simp, Nat.zero_le _, h0⟩, ?_⟩
  rintro i m σ H ⟨rfl, hi, p⟩
  have q := hl i σ H hi p
  by_cases hlt : i < xs.length
  · refine .inr ⟨⟨xs, xs[i], q, by simp [hlt]⟩, Pv (i + 1), fun σ' H' p' => ⟨xs.length - (i + 1), by omega, rfl, hlt, p'⟩, fun x H' y => ?_⟩
    obtain ⟨e, y⟩ := y
    subst e
    exact hs i x σ _ (y xs q) p
  · have e : i = xs.length := by omega
    subst e
    exact .inl ⟨⟨xs, q, Nat.le_refl _⟩, hd σ H p⟩
theorem for_tup {K : PySem.W.Frag} {a : Addr} {xs : List V} {g : TG} {tb : TS} {D : Ends} {σ : St} {H : Hp} (Pv : Nat → St → Hp → Prop) (h0 : Pv 0 σ H) (hl : ∀ i σ H, i ≤ xs.length → Pv i σ H → SqT K H a xs)
    (hs : ∀ i x σ H, xs[i]? = some x → Pv i σ H → g x σ H fun σ2 H2 => tb { D with nx := Pv (i + 1), ct := Pv (i + 1), bk := D.nx } σ2 H2) (hd : ∀ σ H, Pv xs.length σ H → D.nx σ H) :
    ∃ W : Nat → Nat → St → Hp → Prop, (∃ m, W 0 m σ H) ∧ ∀ i m σ H, W i m σ H →
      ((Itt K a).stop i H ∧ D.nx σ H) ∨ ((Itt K a).go i H ∧ ∃ N : St → Hp → Prop, (∀ σ' H', N σ' H' → ∃ m', m' < m ∧ W (i + 1) m' σ' H') ∧ ∀ x H', (Itt K a).yld i H x H' → g x σ H' fun σ2 H2 => tb { D with nx := N, ct := N, bk := D.nx } σ2 H2) := by
  refine ⟨fun i m σ H => m = xs.length - i ∧ i ≤ xs.length ∧ Pv i σ H, ⟨xs.length, by simp, Nat.zero_le _, h0⟩, ?_⟩
  rintro i m σ H ⟨rfl, hi, p⟩
  have q := hl i σ H hi p
  by_cases hlt : i < xs.length
  · refine .inr ⟨⟨xs, xs[i], q, by simp [hlt]⟩, Pv (i + 1), fun σ' H' p' => ⟨xs.length - (i + 1), by omega, rfl, hlt, p'⟩, fun x H' y => ?_⟩
    obtain ⟨e, y⟩ := y
    subst e
    exact hs i x σ _ (y xs q) p
  · have e : i = xs.length := by omega
    subst e
    exact .inl ⟨⟨xs, q, Nat.le_refl _⟩, hd σ H p⟩
theorem for_range {lo : Int} {n : Nat} {g : TG} {tb : TS} {D : Ends} {σ : St} {H : Hp} (Pv : Nat → St → Hp → Prop) (h0 : Pv 0 σ H)
    (hs : ∀ i σ H, i < n → Pv i σ H → g (.int (lo + i)) σ H fun σ2 H2 => tb { D with nx := Pv (i + 1), ct := Pv (i + 1), bk := D.nx } σ2 H2) (hd : ∀ σ H, Pv n σ H → D.nx σ H) :
    ∃ W : Nat → Nat → St → Hp → Prop, (∃ m, W 0 m σ H) ∧ ∀ i m σ H, W i m σ H →
      ((Itr lo n).stop i H ∧ D.nx σ H) ∨ ((Itr lo n).go i H ∧ ∃ N : St → Hp → Prop, (∀ σ' H', N σ' H' → ∃ m', m' < m ∧ W (i + 1) m' σ' H') ∧ ∀ x H', (Itr lo n).yld i H x H' → g x σ H' fun σ2 H2 => tb { D with nx := N, ct := N, bk := D.nx } σ2 H2) := by
  refine ⟨fun i m σ H => m = n - i ∧ i ≤ n ∧ Pv i σ H, ⟨n, by simp, Nat.zero_le _, h0⟩, ?_⟩
  rintro i m σ H ⟨rfl, hi, p⟩
  by_cases hlt : i < n
  · refine .inr ⟨hlt, Pv (i + 1), fun σ' H' p' => ⟨n - (i + 1), by omega, rfl, hlt, p'⟩, fun x H' y => ?_⟩
    obtain ⟨e, y⟩ := y
    subst e y
    exact hs i σ _ hlt p
  · have e : i = n := by omega
    subst e
    exact .inl ⟨Nat.le_refl _, hd σ H p⟩
/-- while, by a word and a measure of the state -/
theorem while_by {c : TT} {tb : TS} {D : Ends} {σ : St} {H : Hp} (Pv : St → Hp → Prop) (μ : St → Hp → Nat) (h0 : Pv σ H)
    (hs : ∀ σ H, Pv σ H → c σ H fun b H1 => if b = true then tb { D with nx := fun σ' H' => Pv σ' H' ∧ μ σ' H' < μ σ H, ct := fun σ' H' => Pv σ' H' ∧ μ σ' H' < μ σ H, bk := D.nx } σ H1 else D.nx σ H1)
    (mono : ∀ σ H Q Q', (∀ b H1, Q b H1 → Q' b H1) → c σ H Q → c σ H Q') : tWhile c tb D σ H := by
  refine ⟨fun m σ H => m = μ σ H ∧ Pv σ H, ⟨_, rfl, h0⟩, ?_⟩
  rintro m σ H ⟨rfl, p⟩
  refine mono σ H _ _ (fun b H1 q => ?_) (hs σ H p)
  cases b with
  | true => exact ⟨_, fun σ' H' ⟨p', l⟩ => ⟨_, l, rfl, p'⟩, q⟩
  | false => exact q
end L2

namespace L2
open PySem PySem.Spec PyProof.Rows

abbrev R2 := V → V → Hp → VK → Prop
/-- a two-place operation on values: f is binaryOp op, inplaceOp op or compareOp op -/
def OpR (X : Cx) (f : Value → Value → Sem Value) (r : R2) : Prop :=
  ∀ (pins : List (Addr × Obj)) (s : Shared) (σ : St) (H : Hp) (x y : V) (v u : Value) (Q : VK), Inv X pins σ H s → RelV x v → RelV y u → r x y H Q →
    wpAny (model X.prog X.w) X.A (f v u) (EP X pins σ Q) X.xe s
/-- a one-place operation -/
def UnR (X : Cx) (f : Value → Sem Value) (r : V → Hp → VK → Prop) : Prop :=
  ∀ (pins : List (Addr × Obj)) (s : Shared) (σ : St) (H : Hp) (x : V) (v : Value) (Q : VK), Inv X pins σ H s → RelV x v → r x H Q →
    wpAny (model X.prog X.w) X.A (f v) (EP X pins σ Q) X.xe s
/-- a call of a value that is known (a builtin, a type) with values -/
def CallR (X : Cx) (f : Value) (r : List V → Hp → VK → Prop) : Prop :=
  ∀ (pins : List (Addr × Obj)) (s : Shared) (σ : St) (H : Hp) (xs : List V) (us : List Value) (Q : VK), Inv X pins σ H s → Vals xs us → r xs H Q →
    wpAny (model X.prog X.w) X.A (call f us) (EP X pins σ Q) X.xe s
/-- a value's truth -/
def TruR (X : Cx) (r : V → Hp → (Bool → Hp → Prop) → Prop) : Prop :=
  ∀ (pins : List (Addr × Obj)) (s : Shared) (σ : St) (H : Hp) (x : V) (v : Value) (Q : Bool → Hp → Prop), Inv X pins σ H s → RelV x v → r x H Q →
    wpAny (model X.prog X.w) X.A (truthy v) (TP X pins σ Q) X.xe s

def tOp (r : R2) (ta tb : TE) : TE := fun σ H Q => ta σ H fun x H1 => tb σ H1 fun y H2 => r x y H2 Q
def tUn (r : V → Hp → VK → Prop) (ta : TE) : TE := fun σ H Q => ta σ H fun x H1 => r x H1 Q
/-- ints in, under C, and a value out -/
def rI (C : Int → Int → Prop) (g : Int → Int → V) : R2 := fun x y H Q => ∃ i j, x = .int i ∧ y = .int j ∧ C i j ∧ Q (g i j) H
def rI0 (g : Int → Int → V) : R2 := fun x y H Q => ∃ i j, x = .int i ∧ y = .int j ∧ Q (g i j) H
def rU (g : Int → V) : V → Hp → VK → Prop := fun x H Q => ∃ i, x = .int i ∧ Q (g i) H

section
variable {X : Cx} {a b c : Expr} {ta tb tc : TE} {pos : Pos}

theorem binT (ha : PE X a ta) (hb : PE X b tb) {pins : List (Addr × Obj)} {s : Shared} {σ : St} {H : Hp} {R : V → V → Hp → Prop} (I : Inv X pins σ H s)
    (h : ta σ H fun x H1 => tb σ H1 fun y H2 => R x y H2) {Q : Value → Shared → Prop} {f : Value → Value → Sem Value}
    (hf : ∀ v u s2 x y H2, Inv X pins σ H2 s2 → RelV x v → RelV y u → R x y H2 → wpAny (model X.prog X.w) X.A (f v u) Q X.xe s2) :
    wpAny (model X.prog X.w) X.A (eval a X.env) (fun v s₁ => wpAny (model X.prog X.w) X.A (eval b X.env) (fun u s₂ => wpAny (model X.prog X.w) X.A (f v u) Q X.xe s₂) X.xe s₁) X.xe s := by
  refine thn (ha pins s σ H _ I h) fun v s1 ⟨x, H1, I1, r1, q1⟩ => ?_
  refine thn (hb pins s1 σ H1 _ I1 q1) fun u s2 ⟨y, H2, I2, r2, q2⟩ => ?_
  exact hf v u s2 x y H2 I2 r1 r2 q2

theorem pe_op {op : Operator} {r : R2} (ho : OpR X (binaryOp op) r) (ha : PE X a ta) (hb : PE X b tb) : PE X (.BinOp a op b pos) (tOp r ta tb) := by
  intro pins s σ H Q I h
  exact wpAny_BinOp (binT ha hb I h fun v u s2 x y H2 I2 rx ry q => ho pins s2 σ H2 x y v u Q I2 rx ry q)
theorem pe_un {op : UnaryOp} {r : V → Hp → VK → Prop} (ho : UnR X (unaryOp op) r) (ha : PE X a ta) : PE X (.UnaryOp op a pos) (tUn r ta) := by
  intro pins s σ H Q I h
  exact UnaryOp_ (thn (ha pins s σ H _ I h) fun v s1 ⟨x, H1, I1, r1, q1⟩ => ho pins s1 σ H1 x v Q I1 r1 q1)
/-- a op= e at a name: the name's slot i -/
theorem augR {op : Operator} {r : R2} (ho : OpR X (inplaceOp op) r) {pins : List (Addr × Obj)} {s : Shared} {σ : St} {H : Hp} {x y : V} {v u : Value} {Q : VK} (I : Inv X pins σ H s)
    (rx : RelV x v) (ry : RelV y u) (q : r x y H Q) : wpAny (model X.prog X.w) X.A (inplaceOp op v u) (EP X pins σ Q) X.xe s := ho pins s σ H x y v u Q I rx ry q

/-! ### ints -/
theorem opI {f : Value → Value → Sem Value} {C : Int → Int → Prop} {g : Int → Int → Int}
    (rule : ∀ (i j : Int) (t u : Tok) (s : Shared) (Q : Value → Shared → Prop) (E : Value → Shared → Prop), C i j → Q (.int (g i j) s.toks) { s with toks := s.toks + 1 } → wpAny (model X.prog X.w) X.A (f (.int i t) (.int j u)) Q E s) :
    OpR X f (rI C fun i j => .int (g i j)) := by
  intro pins s σ H x y v u Q I rx ry h
  obtain ⟨i, j, rfl, rfl, hc, q⟩ := h
  obtain ⟨t, rfl⟩ := rx
  obtain ⟨t', rfl⟩ := ry
  exact rule i j t t' s _ _ hc ⟨.int (g i j), H, I.tok _, ⟨_, rfl⟩, q⟩
theorem opI0 {f : Value → Value → Sem Value} {g : Int → Int → Int}
    (rule : ∀ (i j : Int) (t u : Tok) (s : Shared) (Q : Value → Shared → Prop) (E : Value → Shared → Prop), Q (.int (g i j) s.toks) { s with toks := s.toks + 1 } → wpAny (model X.prog X.w) X.A (f (.int i t) (.int j u)) Q E s) :
    OpR X f (rI0 fun i j => .int (g i j)) := by
  intro pins s σ H x y v u Q I rx ry h
  obtain ⟨i, j, rfl, rfl, q⟩ := h
  obtain ⟨t, rfl⟩ := rx
  obtain ⟨t', rfl⟩ := ry
  exact rule i j t t' s _ _ ⟨.int (g i j), H, I.tok _, ⟨_, rfl⟩, q⟩
theorem opB0 {f : Value → Value → Sem Value} {g : Int → Int → Bool}
    (rule : ∀ (i j : Int) (t u : Tok) (s : Shared) (Q : Value → Shared → Prop) (E : Value → Shared → Prop), Q (.bool (g i j)) s → wpAny (model X.prog X.w) X.A (f (.int i t) (.int j u)) Q E s) :
    OpR X f (rI0 fun i j => .bl (g i j)) := by
  intro pins s σ H x y v u Q I rx ry h
  obtain ⟨i, j, rfl, rfl, q⟩ := h
  obtain ⟨t, rfl⟩ := rx
  obtain ⟨t', rfl⟩ := ry
  exact rule i j t t' s _ _ ⟨.bl (g i j), H, I, rfl, q⟩

def CDiv (i j : Int) : Prop := 0 < j ∧ j < 1073741824
def CDivN (i j : Int) : Prop := j ≠ 0 ∧ j.natAbs < 1073741824
def CPow (i j : Int) : Prop := 0 ≤ j ∧ j ≤ 1000000 ∧ i.natAbs < 2 ^ 64
def CMul (i j : Int) : Prop := (-(2 ^ 64) < i ∧ i < 2 ^ 64) ∨ (-(2 ^ 64) < j ∧ j < 2 ^ 64)
theorem CMul.ok {i j : Int} (h : CMul i j) : IntMulOk i j := by
  rcases h with ⟨h1, h2⟩ | ⟨h1, h2⟩
  · exact .of_left (intBits_le_64 h1 h2)
  · exact .of_right (intBits_le_64 h1 h2)
theorem two_pow_nn (k : Nat) : (0 : Int) ≤ 2 ^ k := by
  rw [two_pow_cast]
  exact Int.natCast_nonneg _

theorem op_add : OpR X (binaryOp .Add) (rI0 fun i j => .int (i + j)) := opI0 fun _ _ _ _ _ _ _ q => add_int q
theorem op_sub : OpR X (binaryOp .Sub) (rI0 fun i j => .int (i - j)) := opI0 fun _ _ _ _ _ _ _ q => sub_int q
theorem op_mul : OpR X (binaryOp .Mult) (rI CMul fun i j => .int (i * j)) := opI fun _ _ _ _ _ _ _ hc q => mul_int q hc.ok
/-- // by a positive divisor -/
theorem op_fdiv : OpR X (binaryOp .FloorDiv) (rI CDiv fun i j => .int (i / j)) := opI fun i j _ _ _ _ _ hc q => by
  have h1 : (0 : Int) < j := hc.1
  have h2 : j < 1073741824 := hc.2
  exact floordiv_int (by omega) (by rw [Int.fdiv_eq_ediv_of_nonneg i (by omega)]; exact q) (.inl (PyProof.noPylong_small (by omega)))
theorem op_fdivN : OpR X (binaryOp .FloorDiv) (rI CDivN fun i j => .int (i.fdiv j)) := opI fun _ _ _ _ _ _ _ hc q => floordiv_int hc.1 q (.inl (PyProof.noPylong_small hc.2))
/-- % by a positive divisor of any size -/
theorem op_mod : OpR X (binaryOp .Mod) (rI (fun _ j => 0 < j) fun i j => .int (i % j)) := opI fun i j _ _ _ _ _ hc q => by
  have h1 : (0 : Int) < j := hc
  exact mod_int' (by omega) (by rw [Int.fmod_eq_emod_of_nonneg i (by omega)]; exact q)
theorem op_modN : OpR X (binaryOp .Mod) (rI (fun _ j => j ≠ 0) fun i j => .int (i.fmod j)) := opI fun _ _ _ _ _ _ _ hc q => mod_int' hc q
theorem op_pow : OpR X (binaryOp .Pow) (rI CPow fun i j => .int (i ^ j.toNat)) := opI fun _ _ _ _ _ _ _ hc q => pow_int_small hc.1 hc.2.1 hc.2.2 q
theorem op_shl : OpR X (binaryOp .LShift) (rI CPow fun i j => .int (i * 2 ^ j.toNat)) := opI fun _ _ _ _ _ _ _ hc q => lshift_int_small hc.1 hc.2.1 hc.2.2 q
theorem op_shr : OpR X (binaryOp .RShift) (rI (fun _ j => 0 ≤ j) fun i j => .int (i / 2 ^ j.toNat)) := opI fun i j _ _ _ _ _ hc q =>
  rshift_int hc (by rw [Int.fdiv_eq_ediv_of_nonneg i (two_pow_nn _)]; exact q)
theorem op_and : OpR X (binaryOp .BitAnd) (rI0 fun i j => .int (Builtin.bitAnd i j)) := opI0 fun _ _ _ _ _ _ _ q => and_int q
theorem op_or : OpR X (binaryOp .BitOr) (rI0 fun i j => .int (Builtin.bitOr i j)) := opI0 fun _ _ _ _ _ _ _ q => or_int q
theorem op_xor : OpR X (binaryOp .BitXor) (rI0 fun i j => .int (Builtin.bitXor i j)) := opI0 fun _ _ _ _ _ _ _ q => xor_int q

theorem iop_add : OpR X (inplaceOp .Add) (rI0 fun i j => .int (i + j)) := opI0 fun _ _ _ _ _ _ _ q => iadd_int q
theorem iop_sub : OpR X (inplaceOp .Sub) (rI0 fun i j => .int (i - j)) := opI0 fun _ _ _ _ _ _ _ q => isub_int q
theorem iop_mul : OpR X (inplaceOp .Mult) (rI CMul fun i j => .int (i * j)) := opI fun _ _ _ _ _ _ _ hc q => imul_int q hc.ok
theorem iop_fdiv : OpR X (inplaceOp .FloorDiv) (rI CDiv fun i j => .int (i / j)) := opI fun i j _ _ _ _ _ hc q => by
  have h1 : (0 : Int) < j := hc.1
  have h2 : j < 1073741824 := hc.2
  exact ifloordiv_int (by omega) (by rw [Int.fdiv_eq_ediv_of_nonneg i (by omega)]; exact q) (.inl (PyProof.noPylong_small (by omega)))
theorem iop_mod : OpR X (inplaceOp .Mod) (rI (fun _ j => 0 < j) fun i j => .int (i % j)) := opI fun i j _ _ _ _ _ hc q => by
  have h1 : (0 : Int) < j := hc
  exact imod_int (by omega) (by rw [Int.fmod_eq_emod_of_nonneg i (by omega)]; exact q)
theorem iop_shl : OpR X (inplaceOp .LShift) (rI CPow fun i j => .int (i * 2 ^ j.toNat)) := opI fun _ _ _ _ _ _ _ hc q => ilshift_int_small hc.1 hc.2.1 hc.2.2 q
theorem iop_shr : OpR X (inplaceOp .RShift) (rI (fun _ j => 0 ≤ j) fun i j => .int (i / 2 ^ j.toNat)) := opI fun i j _ _ _ _ _ hc q =>
  irshift_int hc (by rw [Int.fdiv_eq_ediv_of_nonneg i (two_pow_nn _)]; exact q)
theorem iop_and : OpR X (inplaceOp .BitAnd) (rI0 fun i j => .int (Builtin.bitAnd i j)) := opI0 fun _ _ _ _ _ _ _ q => iand_int q
theorem iop_or : OpR X (inplaceOp .BitOr) (rI0 fun i j => .int (Builtin.bitOr i j)) := opI0 fun _ _ _ _ _ _ _ q => ior_int q
theorem iop_xor : OpR X (inplaceOp .BitXor) (rI0 fun i j => .int (Builtin.bitXor i j)) := opI0 fun _ _ _ _ _ _ _ q => ixor_int q

theorem unI {f : Value → Sem Value} {g : Int → Int}
    (rule : ∀ (i : Int) (t : Tok) (s : Shared) (Q : Value → Shared → Prop) (E : Value → Shared → Prop), Q (.int (g i) s.toks) { s with toks := s.toks + 1 } → wpAny (model X.prog X.w) X.A (f (.int i t)) Q E s) :
    UnR X f (rU fun i => .int (g i)) := by
  intro pins s σ H x v Q I rx h
  obtain ⟨i, rfl, q⟩ := h
  obtain ⟨t, rfl⟩ := rx
  exact rule i t s _ _ ⟨.int (g i), H, I.tok _, ⟨_, rfl⟩, q⟩
theorem un_neg : UnR X (unaryOp .USub) (rU fun i => .int (-i)) := unI fun _ _ _ _ _ q => neg_int q
theorem un_inv : UnR X (unaryOp .Invert) (rU fun i => .int (Builtin.bitNot i)) := unI fun _ _ _ _ _ q => invert_int q

/-! ### bools among ints: n += (a < b) -/
theorem op_add_ib : OpR X (binaryOp .Add) (fun x y H Q => ∃ i k, x = .int i ∧ y = .bl k ∧ Q (.int (i + b2i k)) H) := by
  intro pins s σ H x y v u Q I rx ry h
  obtain ⟨i, k, rfl, rfl, q⟩ := h
  obtain ⟨t, rfl⟩ := rx
  cases ry
  exact add_int_bool ⟨.int (i + b2i k), H, I.tok _, ⟨_, rfl⟩, q⟩
end

/-! ### comparisons -/
/-- the scalars that == tells apart as data does -/
def scal : V → V → Bool
  | .non, .non => true | .non, .int _ => true | .int _, .non => true | .non, .bl _ => true | .bl _, .non => true | .non, .str _ => true | .str _, .non => true
  | .int _, .int _ => true | .bl _, .bl _ => true | .str _, .str _ => true | .byt _, .byt _ => true
  | .int _, .str _ => true | .str _, .int _ => true | .bl _, .str _ => true | .str _, .bl _ => true
  | _, _ => false
def rEq : R2 := fun x y H Q => scal x y = true ∧ Q (.bl (decide (x = y))) H
def rNe : R2 := fun x y H Q => scal x y = true ∧ Q (.bl (!decide (x = y))) H

theorem dec_int {i j : Int} : decide (V.int i = V.int j) = (i == j) := by
  rw [Bool.eq_iff_iff]
  simp
theorem dec_bl {i j : Bool} : decide (V.bl i = V.bl j) = (i == j) := by
  rw [Bool.eq_iff_iff]
  simp
theorem dec_str {i j : Str} : decide (V.str i = V.str j) = (i == j) := by
  rw [Bool.eq_iff_iff]
  simp
theorem dec_byt {i j : Array UInt8} : decide (V.byt i = V.byt j) = (i.toList == j.toList) := by
  rw [Bool.eq_iff_iff]
  cases i
  cases j
  simp

section
variable {X : Cx} {a b c : Expr} {ta tb tc : TE} {pos : Pos}
theorem fin_bl {pins : List (Addr × Obj)} {σ : St} {H : Hp} {s : Shared} {Q : VK} {k k' : Bool} (I : Inv X pins σ H s) (q : Q (.bl k) H) (e : k = k') : EP X pins σ Q (.bool k') s := by
  subst e
  exact ⟨.bl k, H, I, rfl, q⟩
theorem op_eq : OpR X (compareOp .Eq) rEq := by
  intro pins s σ H x y v u Q I rx ry h
  obtain ⟨hs, q⟩ := h
  cases x with
  | non =>
    cases rx
    cases y with
    | non => cases ry; exact PySem.EqNone.eq_none_none (fin_bl I q (by simp))
    | bl j => cases ry; exact PySem.EqNone.eq_none_bool (fin_bl I q (by simp))
    | int j => obtain ⟨t', rfl⟩ := ry; exact PySem.EqNone.eq_none_int (fin_bl I q (by simp))
    | str j => obtain ⟨t', rfl⟩ := ry; exact PySem.EqNone.eq_none_str (fin_bl I q (by simp))
    | _ => exact absurd (show false = true from hs) Bool.false_ne_true
  | bl i =>
    cases rx
    cases y with
    | non => cases ry; exact PySem.EqNone.eq_bool_none (fin_bl I q (by simp))
    | bl j => cases ry; exact eq_bool (fin_bl I q dec_bl)
    | str j => obtain ⟨t', rfl⟩ := ry; exact PySem.EqMixed.eq_bool_str (fin_bl I q (by simp))
    | _ => exact absurd (show false = true from hs) Bool.false_ne_true
  | int i =>
    obtain ⟨t, rfl⟩ := rx
    cases y with
    | non => cases ry; exact PySem.EqNone.eq_int_none (fin_bl I q (by simp))
    | int j => obtain ⟨t', rfl⟩ := ry; exact eq_int (fin_bl I q dec_int)
    | str j => obtain ⟨t', rfl⟩ := ry; exact PySem.EqMixed.eq_int_str (fin_bl I q (by simp))
    | _ => exact absurd (show false = true from hs) Bool.false_ne_true
  | str i =>
    obtain ⟨t, rfl⟩ := rx
    cases y with
    | non => cases ry; exact PySem.EqNone.eq_str_none (fin_bl I q (by simp))
    | bl j => cases ry; exact PySem.EqMixed.eq_str_bool (fin_bl I q (by simp))
    | int j => obtain ⟨t', rfl⟩ := ry; exact PySem.EqMixed.eq_str_int (fin_bl I q (by simp))
    | str j => obtain ⟨t', rfl⟩ := ry; exact eq_str (fin_bl I q dec_str)
    | _ => exact absurd (show false = true from hs) Bool.false_ne_true
  | byt i =>
    obtain ⟨t, rfl⟩ := rx
    cases y with
    | byt j => obtain ⟨t', rfl⟩ := ry; exact PySem.W.eq_bytes (fin_bl I q dec_byt)
    | _ => exact absurd (show false = true from hs) Bool.false_ne_true
  | _ => cases y <;> exact absurd (show false = true from hs) Bool.false_ne_true
theorem op_ne : OpR X (compareOp .NotEq) rNe := by
  intro pins s σ H x y v u Q I rx ry h
  obtain ⟨hs, q⟩ := h
  cases x with
  | non =>
    cases rx
    cases y with
    | non => cases ry; exact PySem.EqNone.ne_none_none (fin_bl I q (by simp))
    | bl j => cases ry; exact PySem.EqNone.ne_none_bool (fin_bl I q (by simp))
    | int j => obtain ⟨t', rfl⟩ := ry; exact PySem.EqNone.ne_none_int (fin_bl I q (by simp))
    | str j => obtain ⟨t', rfl⟩ := ry; exact PySem.EqNone.ne_none_str (fin_bl I q (by simp))
    | _ => exact absurd (show false = true from hs) Bool.false_ne_true
  | bl i =>
    cases rx
    cases y with
    | non => cases ry; exact PySem.EqNone.ne_bool_none (fin_bl I q (by simp))
    | bl j => cases ry; exact ne_bool (fin_bl I q (congrArg not dec_bl))
    | str j => obtain ⟨t', rfl⟩ := ry; exact PySem.EqMixed.ne_bool_str (fin_bl I q (by simp))
    | _ => exact absurd (show false = true from hs) Bool.false_ne_true
  | int i =>
    obtain ⟨t, rfl⟩ := rx
    cases y with
    | non => cases ry; exact PySem.EqNone.ne_int_none (fin_bl I q (by simp))
    | int j => obtain ⟨t', rfl⟩ := ry; exact ne_int (fin_bl I q (congrArg not dec_int))
    | str j => obtain ⟨t', rfl⟩ := ry; exact PySem.EqMixed.ne_int_str (fin_bl I q (by simp))
    | _ => exact absurd (show false = true from hs) Bool.false_ne_true
  | str i =>
    obtain ⟨t, rfl⟩ := rx
    cases y with
    | non => cases ry; exact PySem.EqNone.ne_str_none (fin_bl I q (by simp))
    | bl j => cases ry; exact PySem.EqMixed.ne_str_bool (fin_bl I q (by simp))
    | int j => obtain ⟨t', rfl⟩ := ry; exact PySem.EqMixed.ne_str_int (fin_bl I q (by simp))
    | str j => obtain ⟨t', rfl⟩ := ry; exact ne_str (fin_bl I q (congrArg not dec_str))
    | _ => exact absurd (show false = true from hs) Bool.false_ne_true
  | byt i =>
    obtain ⟨t, rfl⟩ := rx
    cases y with
    | byt j => obtain ⟨t', rfl⟩ := ry; exact PySem.W.ne_bytes (fin_bl I q (congrArg not dec_byt))
    | _ => exact absurd (show false = true from hs) Bool.false_ne_true
  | _ => cases y <;> exact absurd (show false = true from hs) Bool.false_ne_true

theorem op_lt : OpR X (compareOp .Lt) (rI0 fun i j => .bl (decide (i < j))) := opB0 fun _ _ _ _ _ _ _ q => lt_int q
theorem op_le : OpR X (compareOp .LtE) (rI0 fun i j => .bl (decide (i ≤ j))) := opB0 fun _ _ _ _ _ _ _ q => le_int q
theorem op_gt : OpR X (compareOp .Gt) (rI0 fun i j => .bl (decide (j < i))) := opB0 fun _ _ _ _ _ _ _ q => gt_int q
theorem op_ge : OpR X (compareOp .GtE) (rI0 fun i j => .bl (decide (j ≤ i))) := opB0 fun _ _ _ _ _ _ _ q => ge_int q
theorem op_lt_str : OpR X (compareOp .Lt) (fun x y H Q => ∃ i j, x = .str i ∧ y = .str j ∧ Q (.bl (decide (i.cps.toList < j.cps.toList))) H) := by
  intro pins s σ H x y v u Q I rx ry h
  obtain ⟨i, j, rfl, rfl, q⟩ := h
  obtain ⟨t, rfl⟩ := rx
  obtain ⟨t', rfl⟩ := ry
  exact lt_str (fin_bl I q rfl)
/-- the one string within the other -/
theorem op_in_str : OpR X (compareOp .In) (fun x y H Q => ∃ i j, x = .str i ∧ y = .str j ∧ Q (.bl (!(Builtin.Str.occurrences j i 0 j.length 1).isEmpty)) H) := by
  intro pins s σ H x y v u Q I rx ry h
  obtain ⟨i, j, rfl, rfl, q⟩ := h
  obtain ⟨t, rfl⟩ := rx
  obtain ⟨t', rfl⟩ := ry
  exact in_str (fin_bl I q rfl)

/-- is None, is not None: the right side a value none -/
theorem op_isN : OpR X (compareOp .Is) (fun x y H Q => y = .non ∧ Q (.bl (decide (x = .non))) H) := by
  intro pins s σ H x y v u Q I rx ry h
  obtain ⟨rfl, q⟩ := h
  cases ry
  refine is_none_gen (fin_bl I q ?_)
  cases x <;> first
    | (cases rx; rfl)
    | (obtain ⟨t, rfl⟩ := rx; rfl)
theorem op_notN : OpR X (compareOp .IsNot) (fun x y H Q => y = .non ∧ Q (.bl (!decide (x = .non))) H) := by
  intro pins s σ H x y v u Q I rx ry h
  obtain ⟨rfl, q⟩ := h
  cases ry
  refine isnot_none_gen (fin_bl I q ?_)
  cases x <;> first
    | (cases rx; rfl)
    | (obtain ⟨t, rfl⟩ := rx; rfl)

theorem op_notin_str : OpR X (compareOp .NotIn) (fun x y H Q => ∃ i j, x = .str i ∧ y = .str j ∧ Q (.bl (!(!(Builtin.Str.occurrences j i 0 j.length 1).isEmpty))) H) := by
  intro pins s σ H x y v u Q I rx ry h
  obtain ⟨i, j, rfl, rfl, q⟩ := h
  obtain ⟨t, rfl⟩ := rx
  obtain ⟨t', rfl⟩ := ry
  exact notIn_str (fin_bl I q rfl)
/-- is, is not of two objects that are tracked lists or instances -/
def isObj : HO → Bool
  | .lst _ => true
  | .ins _ _ _ => true
  | _ => false
theorem obj_there {pins : List (Addr × Obj)} {s : Shared} {σ : St} {H : Hp} {a : Addr} {o : HO} (I : Inv X pins σ H s) (h : H a = some o) (p : isObj o = true) : ∃ ob, s.heap.get? a = some ob ∧ ob.cls ≠ .type "tuple" := by
  cases o with
  | lst xs =>
    obtain ⟨_, its, n, _, e⟩ : xs.length ≤ sizeLine ∧ ∃ (its : List Value) (n : Nat), Vals xs its ∧ s.heap.get? a = some { cls := .type "list", data := .seq its.toArray n } := I.hok a _ h
    exact ⟨_, e, (by show Value.type "list" ≠ .type "tuple"; decide +kernel)⟩
  | ins C dx fs =>
    have x := I.hok a _ h
    obtain ⟨_, _, _, e, _⟩ := x
    exact ⟨_, e, (by show Value.ref C ≠ .type "tuple"; exact fun z => by cases z)⟩
  | _ => exact absurd (show false = true from p) Bool.false_ne_true
theorem op_is_ref : OpR X (compareOp .Is) (fun x y H Q => ∃ a b oa ob, x = .ref a ∧ y = .ref b ∧ H a = some oa ∧ isObj oa = true ∧ H b = some ob ∧ isObj ob = true ∧ Q (.bl (decide (a = b))) H) := by
  intro pins s σ H x y v u Q I rx ry h
  obtain ⟨a, b, oa, ob, rfl, rfl, ha, pa, hb, pb, q⟩ := h
  cases rx
  cases ry
  obtain ⟨o1, e1, n1⟩ := obj_there I ha pa
  obtain ⟨o2, e2, _⟩ := obj_there I hb pb
  by_cases z : a = b
  · subst z
    exact wpAny_is_ref_self (fin_bl I q (by simp))
  · exact wpAny_is_ref_other z e1 e2 n1 (fin_bl I q (by simp [z]))
theorem op_isnot_ref : OpR X (compareOp .IsNot) (fun x y H Q => ∃ a b oa ob, x = .ref a ∧ y = .ref b ∧ H a = some oa ∧ isObj oa = true ∧ H b = some ob ∧ isObj ob = true ∧ Q (.bl (!decide (a = b))) H) := by
  intro pins s σ H x y v u Q I rx ry h
  obtain ⟨a, b, oa, ob, rfl, rfl, ha, pa, hb, pb, q⟩ := h
  cases rx
  cases ry
  obtain ⟨o1, e1, n1⟩ := obj_there I ha pa
  obtain ⟨o2, e2, _⟩ := obj_there I hb pb
  by_cases z : a = b
  · subst z
    exact wpAny_isNot_ref_self (fin_bl I q (by simp))
  · exact wpAny_isNot_ref_other z e1 e2 n1 (fin_bl I q (by simp [z]))

/-- two rules for one operation: by cases -/
theorem OpR.or {f : Value → Value → Sem Value} {r r' : R2} (h : OpR X f r) (h' : OpR X f r') : OpR X f (fun x y H Q => r x y H Q ∨ r' x y H Q) := by
  intro pins s σ H x y v u Q I rx ry q
  rcases q with q | q
  · exact h pins s σ H x y v u Q I rx ry q
  · exact h' pins s σ H x y v u Q I rx ry q

theorem nomark (b : Expr) {op : CmpOp} (h : op ≠ .In := by decide) (h2 : op ≠ .NotIn := by decide) : behindInMarks op b = false := by
  have e1 : (op == CmpOp.In) = false := by cases op <;> first | rfl | exact absurd rfl h
  have e2 : (op == CmpOp.NotIn) = false := by cases op <;> first | rfl | exact absurd rfl h2
  cases b <;> simp [behindInMarks, e1, e2]
/-- a comparison as a value; hm: nomark b, or (for in, not in) by with_unfolding_all rfl -/
theorem pe_cmpR {op : CmpOp} {r : R2} (ho : OpR X (compareOp op) r) (ha : PE X a ta) (hb : PE X b tb) (hm : behindInMarks op b = false) : PE X (.Compare a [op] [b] pos) (tOp r ta tb) := by
  intro pins s σ H Q I h
  exact wpAny_Compare1 (binT ha hb I h fun v u s2 x y H2 I2 rx ry q => ho pins s2 σ H2 x y v u Q I2 rx ry q) hm
/-- a reading of a value as a test -/
def tTest (t : TE) : TT := fun σ H Q => t σ H fun x H' => ∃ k, x = .bl k ∧ Q k H'
theorem pt_cmpR {op : CmpOp} {r : R2} (ho : OpR X (compareOp op) r) (ha : PE X a ta) (hb : PE X b tb) (hm : behindInMarks op b = false) : PT X (.Compare a [op] [b] pos) (tTest (tOp r ta tb)) := by
  intro pins s σ H Q I h
  refine wpAny_isTrue_Compare1 (thn (ha pins s σ H _ I h) fun v s1 ⟨x, H1, I1, r1, q1⟩ => thn (hb pins s1 σ H1 _ I1 q1) fun u s2 ⟨y, H2, I2, r2, q2⟩ =>
    thn (ho pins s2 σ H2 x y v u _ I2 r1 r2 q2) fun c s3 ⟨z, H3, I3, r3, k, e, q3⟩ => ?_) hm
  subst e
  cases r3
  exact wpAny_truthy_bool ⟨H3, I3, q3⟩
/-- a op1 b op2 c -/
def tChain (r r' : R2) (ta tb tc : TE) : TE := fun σ H Q => ta σ H fun x H1 => tb σ H1 fun y H2 => r x y H2 fun z H3 => ∃ k, z = .bl k ∧
  (if k = true then tc σ H3 fun w' H4 => r' y w' H4 Q else Q (.bl false) H3)
theorem pe_chain {op op' : CmpOp} {r r' : R2} (ho : OpR X (compareOp op) r) (ho' : OpR X (compareOp op') r') (ha : PE X a ta) (hb : PE X b tb) (hc : PE X c tc)
    (hm : lastMarks [op, op'] [b, c] = false := by with_unfolding_all rfl) : PE X (.Compare a [op, op'] [b, c] pos) (tChain r r' ta tb tc) := by
  intro pins s σ H Q I h
  refine Compare_chain (thn (ha pins s σ H _ I h) fun v s1 ⟨x, H1, I1, r1, q1⟩ => chain_link (thn (hb pins s1 σ H1 _ I1 q1) fun u s2 ⟨y, H2, I2, r2, q2⟩ =>
    thn (ho pins s2 σ H2 x y v u _ I2 r1 r2 q2) fun d s3 ⟨z, H3, I3, r3, k, e, q3⟩ => ?_)) hm
  subst e
  cases r3
  refine wpAny_truthy_bool ?_
  cases k with
  | false => exact ite_ff ⟨.bl false, H3, I3, rfl, q3⟩
  | true => exact ite_tt (chain_last (thn (hc pins s3 σ H3 _ I3 q3) fun w' s4 ⟨z', H4, I4, r4, q4⟩ => ho' pins s4 σ H4 y z' u w' Q I4 r2 r4 q4))
theorem pt_chain {op op' : CmpOp} {r r' : R2} (ho : OpR X (compareOp op) r) (ho' : OpR X (compareOp op') r') (ha : PE X a ta) (hb : PE X b tb) (hc : PE X c tc)
    (hm : lastMarks [op, op'] [b, c] = false := by with_unfolding_all rfl) : PT X (.Compare a [op, op'] [b, c] pos) (tTest (tChain r r' ta tb tc)) := by
  intro pins s σ H Q I h
  refine isTrue_chain (thn (ha pins s σ H _ I h) fun v s1 ⟨x, H1, I1, r1, q1⟩ => test_link (thn (hb pins s1 σ H1 _ I1 q1) fun u s2 ⟨y, H2, I2, r2, q2⟩ =>
    thn (ho pins s2 σ H2 x y v u _ I2 r1 r2 q2) fun d s3 ⟨z, H3, I3, r3, k, e, q3⟩ => ?_)) hm
  subst e
  cases r3
  refine wpAny_truthy_bool ?_
  cases k with
  | false =>
    obtain ⟨k', e', q'⟩ := q3
    cases e'
    exact ite_ff ⟨H3, I3, q'⟩
  | true =>
    refine ite_tt (test_last (thn (hc pins s3 σ H3 _ I3 q3) fun w' s4 ⟨z', H4, I4, r4, q4⟩ => thn (ho' pins s4 σ H4 y z' u w' _ I4 r2 r4 q4) fun d' s5 ⟨z2, H5, I5, r5, k2, e2, q5⟩ => ?_))
    subst e2
    cases r5
    exact wpAny_truthy_bool ⟨H5, I5, q5⟩

/-! ### truth -/
/-- a value's truth by the abstract heap -/
def TruV (K : PySem.W.Frag) (x : V) (H : Hp) (k : Bool) : Prop :=
  match x with
  | .non => k = false
  | .bl b => k = b
  | .int i => k = (i != 0)
  | .str y => y.length ≤ sizeLine ∧ k = ((y.length : Int) != 0)
  | .byt y => y.size ≤ sizeLine ∧ k = ((y.size : Int) != 0)
  | .ref p => (∃ xs, SqL K H p xs ∧ k = !xs.isEmpty) ∨ (∃ xs, SqT K H p xs ∧ k = !xs.isEmpty) ∨ ∃ kvs, H p = some (.dK kvs) ∧ k = !kvs.isEmpty
  | _ => False
theorem isEmpty_kv {κ : Type} {kvs : List (κ × V)} {vs : List (κ × Value)} (r : KV kvs vs) : (!vs.isEmpty) = !kvs.isEmpty := by
  cases r <;> rfl
theorem isEmpty_of {xs : List V} {its : List Value} (r : Vals xs its) : (!its.toArray.isEmpty) = !xs.isEmpty := by
  cases r <;> simp
theorem line63 : (sizeLine : Nat) < 2 ^ 63 := by rw [sizeLine_eq]; decide
theorem tru_ok : TruR X (fun x H Q => ∃ k, TruV X.K x H k ∧ Q k H) := by
  intro pins s σ H x v Q I rx h
  obtain ⟨k, e, q⟩ := h
  have hl := line63
  have hs : sizeLine = 16777216 := sizeLine_eq
  cases x with
  | non =>
    cases rx
    have e' : k = false := e
    subst e'
    exact truthy_none ⟨H, I, q⟩
  | bl b =>
    cases rx
    have e' : k = b := e
    subst e'
    exact wpAny_truthy_bool ⟨H, I, q⟩
  | int i =>
    obtain ⟨t, rfl⟩ := rx
    have e' : k = (i != 0) := e
    subst e'
    exact PySem.P.truthy_int ⟨H, I, q⟩
  | str y =>
    obtain ⟨t, rfl⟩ := rx
    obtain ⟨hy, e'⟩ : y.length ≤ sizeLine ∧ k = ((y.length : Int) != 0) := e
    subst e'
    exact PySem.P.truthy_str (by omega) ⟨H, I.tok _, q⟩
  | byt y =>
    obtain ⟨t, rfl⟩ := rx
    obtain ⟨hy, e'⟩ : y.size ≤ sizeLine ∧ k = ((y.size : Int) != 0) := e
    subst e'
    exact PySem.W.truthy_bytes (by omega) ⟨H, I.tok _, q⟩
  | ref p =>
    cases rx
    have e' : (∃ xs, SqL X.K H p xs ∧ k = !xs.isEmpty) ∨ (∃ xs, SqT X.K H p xs ∧ k = !xs.isEmpty) ∨ ∃ kvs, H p = some (.dK kvs) ∧ k = !kvs.isEmpty := e
    rcases e' with ⟨xs, hx, e'⟩ | ⟨xs, hx, e'⟩ | ⟨kvs, hx, e'⟩
    · subst e'
      obtain ⟨its, r, pl, hz⟩ := I.list hx
      have hlen := r.length
      exact wpAny_truthy_list pl.isList (by simp only [List.size_toArray]; omega) ⟨H, I.tok _, by rw [isEmpty_of r]; exact q⟩
    · subst e'
      obtain ⟨its, r, pl, hz⟩ := I.tuple hx
      have hlen := r.length
      exact truthy_tuple pl (by simp only [List.size_toArray]; omega) ⟨H, I.tok _, by rw [isEmpty_of r]; exact q⟩
    · subst e'
      obtain ⟨hz, hS, vs, r, m⟩ : kvs.length ≤ sizeLine ∧ (p == sysModules) = false ∧ ∃ vs, KV kvs vs ∧ s.heap.DictOf (mixKind X.prog X.w) p vs := I.hok p _ hx
      have hlen : kvs.length = vs.length := Paired.length r
      exact wpAny_truthy_dict hS m (by omega) ⟨H, I.tok _, by rw [isEmpty_kv r]; exact q⟩
  | _ => exact (show False from e).elim
/-- any expression whose test is its value's truth (a name, a call, a subscript, a field ..: he by fun _ => rfl) -/
theorem pt_truth (ha : PE X a ta) (he : ∀ whole, isTrue a X.env whole = (do let v ← whole; standAt a.pos; holding [v] (truthy v))) :
    PT X a (fun σ H Q => ta σ H fun x H' => ∃ k, TruV X.K x H' k ∧ Q k H') := by
  intro pins s σ H Q I h
  exact isTrue_plain (thn (ha pins s σ H _ I h) fun v s1 ⟨x, H1, I1, r1, q1⟩ => tru_ok pins s1 σ H1 x v Q I1 r1 q1) (he _)

/-! ### strs and bytes -/
theorem pe_byt {x : List UInt8} {k : Nat} : PE X (.Constant (.bytes x) k pos) (fun _ H Q => Q (.byt x.toArray) H) := fun _ _ _ H _ I h => PySem.W.Constant_bytes ⟨.byt x.toArray, H, I.tok _, ⟨_, rfl⟩, h⟩
theorem op_add_str : OpR X (binaryOp .Add) (fun x y H Q => ∃ i j, x = .str i ∧ y = .str j ∧ i.length + j.length ≤ sizeLine ∧ Q (.str (i ++ j)) H) := by
  intro pins s σ H x y v u Q I rx ry h
  obtain ⟨i, j, rfl, rfl, hz, q⟩ := h
  obtain ⟨t, rfl⟩ := rx
  obtain ⟨t', rfl⟩ := ry
  exact add_str (fun t' tk => ⟨.str (i ++ j), H, I.tok _, ⟨_, rfl⟩, q⟩) hz
theorem iop_add_str : OpR X (inplaceOp .Add) (fun x y H Q => ∃ i j, x = .str i ∧ y = .str j ∧ i.length + j.length ≤ sizeLine ∧ Q (.str (i ++ j)) H) := by
  intro pins s σ H x y v u Q I rx ry h
  obtain ⟨i, j, rfl, rfl, hz, q⟩ := h
  obtain ⟨t, rfl⟩ := rx
  obtain ⟨t', rfl⟩ := ry
  exact iadd_str (fun t' tk => ⟨.str (i ++ j), H, I.tok _, ⟨_, rfl⟩, q⟩) hz
theorem op_add_byt : OpR X (binaryOp .Add) (fun x y H Q => ∃ i j, x = .byt i ∧ y = .byt j ∧ i.size + j.size ≤ 16777216 ∧ Q (.byt (i ++ j)) H) := by
  intro pins s σ H x y v u Q I rx ry h
  obtain ⟨i, j, rfl, rfl, hz, q⟩ := h
  obtain ⟨t, rfl⟩ := rx
  obtain ⟨t', rfl⟩ := ry
  exact PySem.W.KBy.add_bytes hz (fun t' tk => ⟨.byt (i ++ j), H, I.tok _, ⟨_, rfl⟩, q⟩)

def PlainIxT (b : Expr) : Prop := ∀ o i, subscripted b false o i = operate [o, i] (getItem o i)
/-- s[i], 0 ≤ i < len -/
theorem pe_item_str (ha : PE X a ta) (hb : PE X b tb) (hs : PlainIxT b) :
    PE X (.Subscript a b pos) (tOp (fun x y H Q => ∃ z i c, x = .str z ∧ y = .int i ∧ 0 ≤ i ∧ i < 2 ^ 63 ∧ i < z.length ∧ z.cps[i.toNat]? = some c ∧ Q (.str ⟨#[c]⟩) H) ta tb) := by
  intro pins s σ H Q I h
  refine Subscript_ (binT ha hb I h fun v u s2 x y H2 I2 rx ry q => ?_)
  obtain ⟨z, i, c, rfl, rfl, h0, h63, h1, hc, q⟩ := q
  obtain ⟨t, rfl⟩ := rx
  obtain ⟨t', rfl⟩ := ry
  have e : seqIndex? i z.length = some i.toNat := PySem.StrLaws.seqIndex_nonneg h0 h1
  exact tail_any (typeIs_str s2 z t) slot_str_getitem.lookup (getItem_str (c := c) (by
    have e1 : decide (i < -(2 ^ 63 : Int)) = false := decide_eq_false (by omega)
    have e2 : decide (i ≥ 2 ^ 63) = false := decide_eq_false (by omega)
    rw [e1, e2] <;> rfl) (by rw [e]; exact hc) ⟨.str ⟨#[c]⟩, H2, I2.tok _, ⟨_, rfl⟩, q⟩) (hs _ _)
/-- b[i], 0 ≤ i < len -/
theorem pe_item_byt (ha : PE X a ta) (hb : PE X b tb) (hs : PlainIxT b) :
    PE X (.Subscript a b pos) (tOp (fun x y H Q => ∃ (z : List UInt8) (i : Int), x = .byt z.toArray ∧ y = .int i ∧ z.length ≤ sizeLine ∧ 0 ≤ i ∧ i < z.length ∧ Q (.int ((z.getD i.toNat 0).toNat : Nat)) H) ta tb) := by
  intro pins s σ H Q I h
  refine Subscript_ (binT ha hb I h fun v u s2 x y H2 I2 rx ry q => ?_)
  obtain ⟨z, i, rfl, rfl, hz, h0, h1, q⟩ := q
  obtain ⟨t, rfl⟩ := rx
  obtain ⟨t', rfl⟩ := ry
  have hl : sizeLine = 16777216 := sizeLine_eq
  exact tail_any (PySem.W.typeIs_bytes s2 z.toArray t) PySem.W.FB.slot_bytes_getitem.lookup (PySem.W.getItem_bytes (by omega) h0 h1 ⟨.int ((z.getD i.toNat 0).toNat : Nat), H2, I2.tok _, ⟨_, rfl⟩, q⟩) (hs _ _)

/-! ### scalar builtins, by CallR -/
theorem vals1 {x : V} {us : List Value} (r : Vals [x] us) : ∃ u, us = [u] ∧ RelV x u := by
  cases r with
  | cons r1 r2 => cases r2; exact ⟨_, rfl, r1⟩
theorem vals2 {x y : V} {us : List Value} (r : Vals [x, y] us) : ∃ u w', us = [u, w'] ∧ RelV x u ∧ RelV y w' := by
  cases r with
  | cons r1 r2 =>
    cases r2 with
    | cons r3 r4 => cases r4; exact ⟨_, _, rfl, r1, r3⟩
theorem call_abs : CallR X (.builtin "abs") (fun xs H Q => ∃ i, xs = [.int i] ∧ Q (.int (if i < 0 then -i else i)) H) := by
  intro pins s σ H xs us Q I r h
  obtain ⟨i, rfl, q⟩ := h
  obtain ⟨u, rfl, t, rfl⟩ := vals1 r
  exact call_abs_int fun u tk => ⟨.int (if i < 0 then -i else i), H, I.tok _, ⟨_, rfl⟩, q⟩
theorem call_max2 (hc : X.calm = true) : CallR X (.builtin "max") (fun xs H Q => ∃ i j, xs = [.int i, .int j] ∧ Q (.int (if j > i then j else i)) H) := by
  intro pins s σ H xs us Q I r h
  obtain ⟨i, j, rfl, q⟩ := h
  obtain ⟨u, w', rfl, ⟨t, rfl⟩, ⟨t', rfl⟩⟩ := vals2 r
  refine max_two_ints (I.ok.hd hc) fun h' tk k => ⟨_, H, I.kept k, ?_, q⟩
  by_cases hj : j > i
  · rw [if_pos hj, if_pos hj]; exact ⟨_, rfl⟩
  · rw [if_neg hj, if_neg hj]; exact ⟨_, rfl⟩
theorem call_min2 (hc : X.calm = true) : CallR X (.builtin "min") (fun xs H Q => ∃ i j, xs = [.int i, .int j] ∧ Q (.int (if j < i then j else i)) H) := by
  intro pins s σ H xs us Q I r h
  obtain ⟨i, j, rfl, q⟩ := h
  obtain ⟨u, w', rfl, ⟨t, rfl⟩, ⟨t', rfl⟩⟩ := vals2 r
  refine min_two_ints (I.ok.hd hc) fun h' tk k => ⟨_, H, I.kept k, ?_, q⟩
  by_cases hj : j < i
  · rw [if_pos hj, if_pos hj]; exact ⟨_, rfl⟩
  · rw [if_neg hj, if_neg hj]; exact ⟨_, rfl⟩
theorem call_int1 : CallR X (.type "int") (fun xs H Q => (∃ i, xs = [.int i] ∧ Q (.int i) H) ∨ ∃ k, xs = [.bl k] ∧ Q (.int (if k then 1 else 0)) H) := by
  intro pins s σ H xs us Q I r h
  rcases h with ⟨i, rfl, q⟩ | ⟨k, rfl, q⟩
  · obtain ⟨u, rfl, t, rfl⟩ := vals1 r
    exact call_int_int ⟨.int i, H, I, ⟨_, rfl⟩, q⟩
  · obtain ⟨u, rfl, r1⟩ := vals1 r
    cases r1
    exact call_int_bool ⟨.int (if k then 1 else 0), H, I.tok _, ⟨_, rfl⟩, q⟩
theorem call_bool1 : CallR X (.type "bool") (fun xs H Q => (∃ i, xs = [.int i] ∧ Q (.bl (i != 0)) H) ∨ ∃ k, xs = [.bl k] ∧ Q (.bl k) H) := by
  intro pins s σ H xs us Q I r h
  rcases h with ⟨i, rfl, q⟩ | ⟨k, rfl, q⟩
  · obtain ⟨u, rfl, t, rfl⟩ := vals1 r
    exact call_bool_int ⟨.bl (i != 0), H, I, rfl, q⟩
  · obtain ⟨u, rfl, r1⟩ := vals1 r
    cases r1
    exact call_bool_bool ⟨.bl k, H, I, rfl, q⟩
theorem call_str_int : CallR X (.type "str") (fun xs H Q => ∃ i, xs = [.int i] ∧ i.natAbs.log2 < 1920 ∧ Q (.str (toString i)) H) := by
  intro pins s σ H xs us Q I r h
  obtain ⟨i, rfl, hz, q⟩ := h
  obtain ⟨u, rfl, t, rfl⟩ := vals1 r
  exact PySem.P.str_of_int hz ⟨.str _, H, I.tok _, ⟨_, rfl⟩, q⟩
theorem call_ord : CallR X (.builtin "ord") (fun xs H Q => ∃ x, xs = [.str x] ∧ x.length = 1 ∧ Q (.int (x.cps.getD 0 0 : Nat)) H) := by
  intro pins s σ H xs us Q I r h
  obtain ⟨x, rfl, hz, q⟩ := h
  obtain ⟨u, rfl, t, rfl⟩ := vals1 r
  exact ord_of_one hz ⟨.int _, H, I.tok _, ⟨_, rfl⟩, q⟩
theorem call_chr : CallR X (.builtin "chr") (fun xs H Q => ∃ i, xs = [.int i] ∧ 0 ≤ i ∧ i ≤ 1114111 ∧ Q (.str ⟨#[i.toNat]⟩) H) := by
  intro pins s σ H xs us Q I r h
  obtain ⟨i, rfl, h0, h1, q⟩ := h
  obtain ⟨u, rfl, t, rfl⟩ := vals1 r
  exact chr_of_range h0 h1 ⟨.str _, H, I.tok _, ⟨_, rfl⟩, q⟩
/-- len of a str, a bytes, a list, a tuple -/
def LenV (K : PySem.W.Frag) (x : V) (H : Hp) (n : Nat) : Prop :=
  match x with
  | .str y => y.length ≤ sizeLine ∧ n = y.length
  | .byt y => y.size ≤ sizeLine ∧ n = y.size
  | .ref p => (∃ xs, SqL K H p xs ∧ n = xs.length) ∨ ∃ xs, SqT K H p xs ∧ n = xs.length
  | _ => False
theorem call_len : CallR X (.builtin "len") (fun xs H Q => ∃ x n, xs = [x] ∧ LenV X.K x H n ∧ Q (.int n) H) := by
  intro pins s σ H xs us Q I r h
  obtain ⟨x, n, rfl, e, q⟩ := h
  obtain ⟨u, rfl, rx⟩ := vals1 r
  have hl := line63
  have hs : sizeLine = 16777216 := sizeLine_eq
  cases x with
  | str y =>
    obtain ⟨t, rfl⟩ := rx
    obtain ⟨hy, e'⟩ : y.length ≤ sizeLine ∧ n = y.length := e
    subst e'
    exact len_str (by omega) ⟨.int _, H, I.tok _, ⟨_, rfl⟩, q⟩
  | byt y =>
    obtain ⟨t, rfl⟩ := rx
    obtain ⟨hy, e'⟩ : y.size ≤ sizeLine ∧ n = y.size := e
    subst e'
    exact PySem.W.len_bytes (by omega) ⟨.int _, H, I.tok _, ⟨_, rfl⟩, q⟩
  | ref p =>
    cases rx
    have e' : (∃ xs, SqL X.K H p xs ∧ n = xs.length) ∨ ∃ xs, SqT X.K H p xs ∧ n = xs.length := e
    rcases e' with ⟨xs, hx, e'⟩ | ⟨xs, hx, e'⟩
    · subst e'
      obtain ⟨its, r', pl, hz⟩ := I.list hx
      have hlen := r'.length
      exact Calls.call_len_list pl.isList (by simp only [List.size_toArray]; omega) ⟨.int xs.length, H, I.tok _, ⟨_, by simp only [List.size_toArray]; rw [hlen]⟩, q⟩
    · subst e'
      obtain ⟨its, r', pl, hz⟩ := I.tuple hx
      have hlen := r'.length
      exact len_tuple pl (by simp only [List.size_toArray]; omega) ⟨.int xs.length, H, I.tok _, ⟨_, by simp only [List.size_toArray]; rw [hlen]⟩, q⟩
  | _ => exact (show False from e).elim
/-- divmod: a new tuple -/
theorem call_divmod : CallR X (.builtin "divmod") (fun xs H Q => ∃ i j, xs = [.int i, .int j] ∧ CDiv i j ∧ ∀ p, H p = none → Q (.ref p) (upd H p (.tup [.int (i / j), .int (i % j)]))) := by
  intro pins s σ H xs us Q I r h
  obtain ⟨i, j, rfl, ⟨h1, h2⟩, q⟩ := h
  obtain ⟨u, w', rfl, ⟨t, rfl⟩, ⟨t', rfl⟩⟩ := vals2 r
  refine divmod_int (by omega) ?_ (.inl (PyProof.noPylong_small (by omega)))
  rw [Int.fdiv_eq_ediv_of_nonneg i (by omega), Int.fmod_eq_emod_of_nonneg i (by omega)]
  have hn : H s.heap.objs.size = none := I.hok.fresh (Nat.le_refl _)
  refine ⟨.ref s.heap.objs.size, _, ?_, rfl, q _ hn⟩
  refine I.laid (fun b o e => Heap.get?_push_of_some _ e) (Nat.le_refl _) ⟨by simp only [List.length_cons, List.length_nil]; rw [sizeLine_eq]; decide, [.int (i / j) s.toks, .int (i % j) (s.toks + 1)], .cons ⟨_, rfl⟩ (.cons ⟨_, rfl⟩ .nil), ?_⟩
  exact ⟨_, Heap.get?_push_size s.heap rfl, rfl, 0, rfl⟩
end
end L2

namespace L2
open PySem PySem.Spec PyProof.Rows

/-! ### an instance, its attributes a map -/
structure ObjM (h : Heap) (x dx C : Addr) (mA : Str → Option Value) : Prop where
  obj : h.get? x = some (PySem.W.instObj C dx)
  ns : h.Ns1 dx mA
  ne : dx ≠ x

theorem lookIn_ns {h : Heap} {dx : Addr} {mA : Str → Option Value} (n : h.Ns1 dx mA) : ∃ od, h.get? dx = some od ∧ ∀ name, PySem.W.lookIn name od = some (mA name) := by
  obtain ⟨o, es, ep, ho, hd, hk, _, hm⟩ := n
  refine ⟨o, ho, fun name => ?_⟩
  have e := hm name
  unfold nsFind findBy at e
  rw [← Array.find?_toList] at e
  unfold PySem.W.lookIn
  rw [hd]
  dsimp only
  split
  · rename_i y q
    rw [q] at e
    exact congrArg some e
  · rename_i q
    rw [q] at e
    have a : es.toList.any (·.refKey) = false := by
      rw [List.any_eq_false]
      intro y hy
      obtain ⟨z, t, hkey⟩ := hk y (Array.mem_toList_iff.mp hy)
      simp [DictEntry.refKey, hkey]
    have a' : ¬ es.toList.any (·.refKey) = true := by rw [a]; exact Bool.false_ne_true
    rw [if_neg a']
    exact congrArg some e

theorem ObjM.look {h : Heap} {x dx C : Addr} {mA : Str → Option Value} (I : ObjM h x dx C mA) : ∃ od, PySem.W.InstAt h x (PySem.W.instObj C dx) C (some od) ∧ ∀ name, PySem.W.lookIn name od = some (mA name) :=
  let ⟨od, ho, hl⟩ := lookIn_ns I.ns
  ⟨od, ⟨I.obj, rfl, rfl, ho⟩, hl⟩

section
variable {prog : Program} {w : World} {A : Around} {E : Value → Shared → Prop} {s : Shared} {K : PySem.W.Frag} {x dx C f : Addr} {mA : Str → Option Value} {name : Str} {v : Value}

theorem get_map {expr : Bool} {Q : Value → Shared → Prop} (X : K.In s.heap) (I : ObjM s.heap x dx C mA) (hg : PySem.W.plainGet K C name = true) (hh : PySem.W.hasDictIn K C = true)
    (ha : PySem.W.findIn K (.ref C) name = some none) (hv : mA name = some v) (hv' : PySem.W.handedIn v = true) (h : Q v { s with toks := s.toks + 1 }) :
    wpAny (model prog w) A (getAttr (.ref x) name expr) Q E s := by
  obtain ⟨od, J, hl⟩ := I.look
  exact PySem.W.get_value X J (PySem.W.plainGet_of hg).1 (PySem.W.findObj_own hh ha rfl (by rw [hl, hv])) hv' h

theorem get_const {expr : Bool} {a : Value} {Q : Value → Shared → Prop} (X : K.In s.heap) (I : ObjM s.heap x dx C mA) (hg : PySem.W.plainGet K C name = true) (hh : PySem.W.hasDictIn K C = true)
    (ha : PySem.W.findIn K (.ref C) name = some (some a)) (hn : PySem.W.specialIn K a "__get__" = some none) (hc : PySem.W.copiedNames.contains name = false) (hv : mA name = none) (hv' : PySem.W.handedIn a = true)
    (h : Q a { s with toks := s.toks + 1 }) : wpAny (model prog w) A (getAttr (.ref x) name expr) Q E s := by
  obtain ⟨od, J, hl⟩ := I.look
  exact PySem.W.get_value X J (PySem.W.plainGet_of hg).1 (PySem.W.findObj_cls hh ha hn hv' hc (by rw [hl, hv])) hv' h

theorem get_meth {pl : Sem Bool} {Q : Value × List Value → Shared → Prop} (X : K.In s.heap) (I : ObjM s.heap x dx C mA) (hg : PySem.W.plainGet K C name = true)
    (hf : PySem.W.findIn K (.ref C) name = some (some (.ref f))) (ht : PySem.W.isFn K (.ref f) = true) (hv : mA name = none) (h : Q (.ref f, [.ref x]) s) :
    wpAny (model prog w) A (getMethod (.ref x) name pl) Q E s := by
  obtain ⟨od, J, hl⟩ := I.look
  exact PySem.W.method_fn X J (PySem.W.plainGet_of hg).1 (PySem.W.plainGet_of hg).2 hf (beq_iff_eq.mp ht) (by show (PySem.W.lookIn name od).map (·.isSome) = some false; rw [hl, hv]; rfl) h

theorem set_map {ns : List Str} {Q : Unit → Shared → Prop} (X : K.In s.heap) (I : ObjM s.heap x dx C mA)
    (hs : PySem.W.findIn K (.ref C) "__setattr__" = some (some (.builtin "object.__setattr__"))) (hp : PySem.W.plainOver K C = true) (ht : PySem.W.takerIn K C name = some none) (hh : PySem.W.hasDictIn K C = true)
    (hw : PySem.Within mA ns) (hsz : ns.length ≤ sizeLine)
    (h : ∀ h', ObjM h' x dx C (fun y => if y = name then some v else mA y) → Heap.SameBut dx s.heap h' → Q () { s with heap := h', toks := s.toks + 2 }) :
    wpAny (model prog w) A (setAttr (.ref x) name v) Q E s := by
  obtain ⟨od, J, hl⟩ := I.look
  refine PySem.W.set_plain X J hs (PySem.W.osa_open (s := { s with toks := s.toks + 1 }) (r := none) X J hp ht fun b => ?_)
  obtain ⟨cd, hc, hd'⟩ := PySem.W.any_some hh
  have hx : s.heap.get? x = some ⟨.ref C, some dx, .plain, #[]⟩ := I.obj
  refine wpAny_bind (wpAny_pure (wpAny_bind (wpAny_bind (wpAny_loadPart hx (wpAny_bind (PySem.W.Looks.here (s := { s with toks := s.toks + 1 }) (PySem.W.looks_clsIn X hc) ?_))))))
  rw [hd']
  refine wpAny_pure (a := some dx) (wpAny_bind (wpAny_pure (wpAny_bind ?_)))
  refine wpAny_nsSet1 (s := { s with toks := s.toks + 1 }) I.ns fun h' hn2 hs2 => ?_
  obtain ⟨oD, esD, epD, hoD, hdD, hcD⟩ := hn2.count (PySem.Within.cons name v hw)
  refine wpAny_bind (wpAny_lookBehind hoD (by rw [hdD]; exact pastItsLine_dict (Nat.le_trans hcD (by rw [List.length_cons]; omega))) ?_)
  exact wpAny_pure (h _ ⟨(hs2.2 _ (Ne.symm I.ne)).trans I.obj, hn2, I.ne⟩ hs2)

/-- C(..): the dict at the heap's end, the instance behind it; then its __init__ -/
theorem make_map {R : Result → Shared → Prop} {vs : List Value} {kw : List (Str × Value)} (X : K.In s.heap) (hm : PySem.W.makesIn K C = true)
    (hi : PySem.W.findIn K (.ref C) "__init__" = some (some (.ref f))) (hf : PySem.W.typeIn K (.ref f) = some (.type "function"))
    (h : codeAny (model prog w) (A.under (.builtin "type.__call__" ⟨.ref C :: vs, kw⟩)) (.call (.ref f) ⟨.ref (s.heap.objs.size + 1) :: vs, kw⟩) (PySem.W.InitBack (s.heap.objs.size + 1) R)
      { s with heap := (s.heap.push PySem.W.emptyDict).push (PySem.W.instObj C s.heap.objs.size) }) :
    codeAny (model prog w) A (.call (.ref C) ⟨vs, kw⟩) R s := by
  obtain ⟨hh, g, d, t, os⟩ := s
  exact PySem.W.make_core (PySem.W.makes_of X hm) (PySem.W.looks_findIn X hi) (fun self => PySem.W.bind_fn X self hf) (.inl rfl) h
/-- C() where there is no __init__ but object's -/
theorem make_map0 {R : Result → Shared → Prop} (X : K.In s.heap) (hm : PySem.W.makesIn K C = true)
    (hi : PySem.W.findIn K (.ref C) "__init__" = some (some (.builtin "object.__init__")))
    (hb : ∀ self, PySem.W.Looks (model prog w) s.heap (bindSpecial (.builtin "object.__init__") self) (.builtin "object.__init__", [self]))
    (h : codeAny (model prog w) (A.under (.builtin "type.__call__" ⟨[.ref C], []⟩)) (.call (.builtin "object.__init__") ⟨[.ref (s.heap.objs.size + 1)], []⟩) (PySem.W.InitBack (s.heap.objs.size + 1) R)
      { s with heap := (s.heap.push PySem.W.emptyDict).push (PySem.W.instObj C s.heap.objs.size) }) :
    codeAny (model prog w) A (.call (.ref C) ⟨[], []⟩) R s := by
  obtain ⟨hh, g, d, t, os⟩ := s
  exact PySem.W.make_core (PySem.W.makes_of X hm) (PySem.W.looks_findIn X hi) hb (.inr ⟨rfl, rfl⟩) h
end

/-! ### the attributes as a list of pairs -/
def putF (f : Str) (v : V) : List (Str × V) → List (Str × V)
  | [] => [(f, v)]
  | (g, x) :: r => if g = f then (g, v) :: r else (g, x) :: putF f v r
theorem lookup_putF (f g : Str) (v : V) : ∀ fs : List (Str × V), (putF f v fs).lookup g = if g = f then some v else fs.lookup g
  | [] => by
    show List.lookup g [(f, v)] = _
    by_cases h : g = f
    · have hb : (g == f) = true := beq_iff_eq.mpr h
      simp only [List.lookup, hb, if_pos h]
    · have hb : (g == f) = false := beq_eq_false_iff_ne.mpr h
      simp only [List.lookup, hb, if_neg h]
  | (k, x) :: r => by
    have ih := lookup_putF f g v r
    rw [show putF f v ((k, x) :: r) = (if k = f then (k, v) :: r else (k, x) :: putF f v r) from rfl]
    by_cases hk : k = f
    · rw [if_pos hk]
      by_cases h : g = k
      · have hb : (g == k) = true := beq_iff_eq.mpr h
        simp only [List.lookup, hb, if_pos (h.trans hk)]
      · have hb : (g == k) = false := beq_eq_false_iff_ne.mpr h
        simp only [List.lookup, hb, if_neg (fun e : g = f => h (e.trans hk.symm))]
    · rw [if_neg hk]
      by_cases h : g = k
      · have hb : (g == k) = true := beq_iff_eq.mpr h
        simp only [List.lookup, hb, if_neg (fun e : g = f => hk (h.symm.trans e))]
      · have hb : (g == k) = false := beq_eq_false_iff_ne.mpr h
        simp only [List.lookup, hb]
        exact ih
theorem keys_putF (f : Str) (v : V) : ∀ fs : List (Str × V), f ∈ (putF f v fs).map (·.1) ∧ ∀ g, g ∈ fs.map (·.1) → g ∈ (putF f v fs).map (·.1)
  | [] => ⟨by simp [putF], fun g h => by simp at h⟩
  | (k, x) :: r => by
    obtain ⟨i1, i2⟩ := keys_putF f v r
    rw [show putF f v ((k, x) :: r) = (if k = f then (k, v) :: r else (k, x) :: putF f v r) from rfl]
    by_cases hk : k = f
    · rw [if_pos hk]
      subst hk
      exact ⟨by simp, fun g h => by simpa using h⟩
    · rw [if_neg hk]
      refine ⟨?_, fun g h => ?_⟩
      · rw [List.map_cons]
        exact List.mem_cons_of_mem _ i1
      · rw [List.map_cons] at h ⊢
        rcases List.mem_cons.mp h with e | e
        · exact List.mem_cons.mpr (.inl e)
        · exact List.mem_cons_of_mem _ (i2 g e)
theorem length_putF (f : Str) (v : V) : ∀ fs : List (Str × V), (putF f v fs).length ≤ fs.length + 1
  | [] => by simp [putF]
  | (k, x) :: r => by
    have ih := length_putF f v r
    rw [show putF f v ((k, x) :: r) = (if k = f then (k, v) :: r else (k, x) :: putF f v r) from rfl]
    by_cases hk : k = f
    · rw [if_pos hk, List.length_cons, List.length_cons]; omega
    · rw [if_neg hk, List.length_cons, List.length_cons]; omega

theorem RelO.some_of {v : V} {o : Option Value} (r : RelO (some v) o) : ∃ u, o = some u ∧ RelV v u := by
  cases o with
  | none => exact (show False from r).elim
  | some u => exact ⟨u, rfl, r⟩
theorem RelO.none_of {o : Option Value} (r : RelO none o) : o = none := by
  cases o with
  | none => rfl
  | some u => exact (show False from r).elim
theorem handed_of {v : V} {u : Value} (r : RelV v u) : PySem.W.handedIn u = true := by
  cases v with
  | non => cases (show u = Value.none from r); rfl
  | bl b => cases (show u = Value.bool b from r); rfl
  | int i => obtain ⟨t, e⟩ := (show ∃ t, u = Value.int i t from r); cases e; rfl
  | str x => obtain ⟨t, e⟩ := (show ∃ t, u = Value.str x t from r); cases e; rfl
  | byt b => obtain ⟨t, e⟩ := (show ∃ t, u = Value.bytes b t from r); cases e; rfl
  | flt b => obtain ⟨t, e⟩ := (show ∃ t, u = Value.float b t from r); cases e; rfl
  | ref a => cases (show u = Value.ref a from r); rfl
  | ty n => cases (show u = Value.type n from r); rfl

section
variable {P : Program} {w : World} {H H' : Hp} {h h' : Heap} {a C dx : Addr} {fs fs' : List (Str × V)}
theorem ins_get (hok : HOk P w H h) (e : H a = some (.ins C dx fs)) : ∃ mA, ObjM h a dx C mA ∧ (∀ f, RelO (fs.lookup f) (mA f)) ∧ PySem.Within mA (fs.map (·.1)) ∧ fs.length ≤ 1000 ∧ H dx = some (.own a) := by
  obtain ⟨d, z, ne, ob, mA, n, r, q⟩ := (show ObjOk P w H h a (.ins C dx fs) from hok a _ e)
  exact ⟨mA, ⟨ob, n, ne⟩, r, q, z, d⟩
end

/-! ### what of the text a class must have -/
structure Cls (K : PySem.W.Frag) (C : Addr) : Prop where
  pg : PySem.W.plainGet K C Str.empty = true
  hd : PySem.W.hasDictIn K C = true
  po : PySem.W.plainOver K C = true
  sa : PySem.W.findIn K (.ref C) "__setattr__" = some (some (.builtin "object.__setattr__"))
theorem Cls.get {K : PySem.W.Frag} {C : Addr} (c : Cls K C) (f : Str) : PySem.W.plainGet K C f = true := c.pg
/-- no class of it has the name -/
def NoAttr (K : PySem.W.Frag) (C : Addr) (f : Str) : Prop := PySem.W.findIn K (.ref C) f = some none
theorem NoAttr.taker {K : PySem.W.Frag} {C : Addr} {f : Str} (n : NoAttr K C f) : PySem.W.takerIn K C f = some none := by
  unfold PySem.W.takerIn
  rw [show PySem.W.findIn K (.ref C) f = some none from n]
  rfl
/-- a constant of the class -/
structure Con (K : PySem.W.Frag) (C : Addr) (f : Str) (v : V) (u : Value) : Prop where
  at_ : PySem.W.findIn K (.ref C) f = some (some u)
  rel : RelV v u
  get : PySem.W.specialIn K u "__get__" = some none
  cp : PySem.W.copiedNames.contains f = false
/-- a method: a plain def of the class or of one above it -/
structure Meth (K : PySem.W.Frag) (C : Addr) (m : Str) (f : Addr) : Prop where
  at_ : PySem.W.findIn K (.ref C) m = some (some (.ref f))
  fn : PySem.W.isFn K (.ref f) = true
  kp : PySem.W.keepIn K (.ref f) = true

section
variable {X : Cx} {pins : List (Addr × Obj)} {σ : St} {H : Hp} {s : Shared} {a C dx : Addr} {fs : List (Str × V)} {f : Str} {v : V} {A : Around} {E : Value → Shared → Prop}

theorem getattr_ok {b : Bool} {Q : Value → Shared → Prop} (I : Inv X pins σ H s) (e : H a = some (.ins C dx fs)) (c : Cls X.K C) (n : NoAttr X.K C f) (l : fs.lookup f = some v)
    (h : ∀ u s', Inv X pins σ H s' → RelV v u → Q u s') : wpAny (model X.prog X.w) A (getAttr (.ref a) f b) Q E s := by
  obtain ⟨mA, O, r, _, _, _⟩ := ins_get I.hok e
  obtain ⟨u, hu, ru⟩ := RelO.some_of (v := v) (o := mA f) (by rw [← l]; exact r f)
  exact get_map I.kIn O (c.get f) c.hd n hu (handed_of ru) (h u _ (I.tok _) ru)

theorem getcon_ok {b : Bool} {u : Value} {Q : Value → Shared → Prop} (I : Inv X pins σ H s) (e : H a = some (.ins C dx fs)) (c : Cls X.K C) (k : Con X.K C f v u) (l : fs.lookup f = none)
    (h : ∀ s', Inv X pins σ H s' → Q u s') : wpAny (model X.prog X.w) A (getAttr (.ref a) f b) Q E s := by
  obtain ⟨mA, O, r, _, _, _⟩ := ins_get I.hok e
  have hn : mA f = none := RelO.none_of (by rw [← l]; exact r f)
  exact get_const I.kIn O (c.get f) c.hd k.at_ k.get k.cp hn (handed_of k.rel) (h _ (I.tok _))

theorem getmeth_ok {m : Str} {g : Addr} {pl : Sem Bool} {Q : Value × List Value → Shared → Prop} (I : Inv X pins σ H s) (e : H a = some (.ins C dx fs)) (c : Cls X.K C) (k : Meth X.K C m g) (l : fs.lookup m = none)
    (h : Q (.ref g, [.ref a]) s) : wpAny (model X.prog X.w) A (getMethod (.ref a) m pl) Q E s := by
  obtain ⟨mA, O, r, _, _, _⟩ := ins_get I.hok e
  have hn : mA m = none := RelO.none_of (by rw [← l]; exact r m)
  exact get_meth I.kIn O (c.get m) k.at_ k.fn hn h

theorem setattr_ok {y : V} {u : Value} {Q : Unit → Shared → Prop} (I : Inv X pins σ H s) (e : H a = some (.ins C dx fs)) (c : Cls X.K C) (n : NoAttr X.K C f) (hl : fs.length < 1000) (ry : RelV y u)
    (h : ∀ s', Inv X pins σ (upd H a (.ins C dx (putF f y fs))) s' → Q () s') : wpAny (model X.prog X.w) A (setAttr (.ref a) f u) Q E s := by
  obtain ⟨mA, O, r, wi, _, ho⟩ := ins_get I.hok e
  have hz : (fs.map (·.1)).length ≤ sizeLine := by rw [List.length_map, sizeLine_eq]; omega
  refine set_map I.kIn O c.sa c.po n.taker c.hd wi hz fun h' O' sb => h _ ?_
  have hd : ∃ o, h'.get? dx = some o := let ⟨o, _, _, e', _⟩ := O'.ns; ⟨o, e'⟩
  refine I.write (x := a) (e := dx) (by rw [e]; exact True.intro) (.inr ho) (fun b q hb z => (sb.2 b hb).trans z) hd ?_
  refine ⟨by rw [upd_ne O.ne]; exact ho, ?_, O.ne, O'.obj, _, O'.ns, fun g => ?_, fun g hg => ?_⟩
  · have := length_putF f y fs; omega
  · show RelO ((putF f y fs).lookup g) (if g = f then some u else mA g)
    rw [lookup_putF]
    by_cases q : g = f
    · rw [if_pos q, if_pos q]; exact ry
    · rw [if_neg q, if_neg q]; exact r g
  · by_cases q : g = f
    · rw [q]; exact (keys_putF f y fs).1
    · refine (keys_putF f y fs).2 g (wi g fun z => hg ?_)
      show (if g = f then some u else mA g) = none
      rw [if_neg q]; exact z

/-- a new instance, tracked, without attributes -/
theorem Inv.made (I : Inv X pins σ H s) : Inv X pins σ (upd (upd H s.heap.objs.size (.own (s.heap.objs.size + 1))) (s.heap.objs.size + 1) (.ins C s.heap.objs.size []))
    { s with heap := (s.heap.push PySem.W.emptyDict).push (PySem.W.instObj C s.heap.objs.size) } := by
  have e1 : (s.heap.push PySem.W.emptyDict).get? s.heap.objs.size = some PySem.W.emptyDict := Heap.get?_push_size s.heap rfl
  have e2 : ((s.heap.push PySem.W.emptyDict).push (PySem.W.instObj C s.heap.objs.size)).get? (s.heap.objs.size + 1) = some (PySem.W.instObj C s.heap.objs.size) := by
    have := Heap.get?_push_size (s.heap.push PySem.W.emptyDict) (o := PySem.W.instObj C s.heap.objs.size) rfl
    rwa [Heap.size_push] at this
  have e3 : (s.heap.push PySem.W.emptyDict).Ns s.heap.objs.size (fun _ => none) := ⟨PySem.W.emptyDict, #[], _, e1, rfl, (fun e he => absurd he (by simp)), fun _ => rfl⟩
  have I1 := I.laid (a := s.heap.objs.size) (o := .own (s.heap.objs.size + 1)) (h' := s.heap.push PySem.W.emptyDict) (t' := s.toks) (fun b u q => Heap.get?_push_of_some _ q) (Nat.le_refl _) ⟨_, e1⟩
  refine I1.laid (a := s.heap.objs.size + 1) (o := .ins C s.heap.objs.size []) (t' := s.toks) (fun b u q => Heap.get?_push_of_some _ q) (Nat.le_of_eq (Heap.size_push _ _)) ?_
  have ne : s.heap.objs.size ≠ s.heap.objs.size + 1 := Nat.ne_of_lt (Nat.lt_succ_self _)
  refine ⟨by rw [upd_ne ne, upd_same], Nat.zero_le _, ne, e2, fun _ => none, (Heap.Ns1.of_empty e3).at fun o q => Heap.get?_push_of_some _ q, fun _ => True.intro, fun y hy => absurd rfl hy⟩

/-- e.f where nothing but the object is asked: through attributeBase (super) and the last hold -/
theorem attr_of {prog : Program} {w : World} {env : Env} {e : Expr} {f : Str} {pos : Pos} {s : Shared} {Q : Value → Shared → Prop} (hb : attributeBase e f env (eval e env) = eval e env)
    (h : wpAny (model prog w) A (eval e env) (fun o s₁ => wpAny (model prog w) A (getAttr o f true) Q E s₁) E s) : wpAny (model prog w) A (eval (.Attribute e f pos) env) Q E s :=
  Attribute_any_ h (by rw [arm_eval_Attribute, hb])
end

/-! ### readings and rules -/
/-- e.f, an attribute of the instance -/
def tFld (K : PySem.W.Frag) (ta : TE) (f : Str) : TE := fun σ H Q => ta σ H fun x H1 => ∃ a C dx fs v, x = .ref a ∧ H1 a = some (.ins C dx fs) ∧ Cls K C ∧ NoAttr K C f ∧ fs.lookup f = some v ∧ Q v H1
/-- e.f, a constant of the class -/
def tCon (K : PySem.W.Frag) (ta : TE) (f : Str) : TE := fun σ H Q => ta σ H fun x H1 => ∃ a C dx fs v u, x = .ref a ∧ H1 a = some (.ins C dx fs) ∧ Cls K C ∧ Con K C f v u ∧ fs.lookup f = none ∧ Q v H1
/-- e.f = value -/
def sFld (K : PySem.W.Frag) (ta tv : TE) (f : Str) : TS := fun D σ H => tv σ H fun y H1 => ta σ H1 fun x H2 => ∃ a C dx fs, x = .ref a ∧ H2 a = some (.ins C dx fs) ∧ Cls K C ∧ NoAttr K C f ∧ fs.length < 1000 ∧
  D.nx σ (upd H2 a (.ins C dx (putF f y fs)))
/-- an augmented operator on two values -/
def InOp (X : Cx) (op : Operator) (rd : V → V → Hp → VK → Prop) : Prop :=
  ∀ (pins : List (Addr × Obj)) (s : Shared) (σ : St) (H : Hp) (x y : V) (u v : Value) (Q : VK), Inv X pins σ H s → RelV x u → RelV y v → rd x y H Q → wpAny (model X.prog X.w) X.A (inplaceOp op u v) (EP X pins σ Q) X.xe s
/-- e.f op= value -/
def sFldAug (K : PySem.W.Frag) (ta tv : TE) (rd : V → V → Hp → VK → Prop) (f : Str) : TS := fun D σ H => ta σ H fun x H1 => ∃ a C dx fs v, x = .ref a ∧ H1 a = some (.ins C dx fs) ∧ Cls K C ∧ NoAttr K C f ∧ fs.lookup f = some v ∧
  tv σ H1 fun y H2 => rd v y H2 fun z H3 => ∃ dx' fs', H3 a = some (.ins C dx' fs') ∧ fs'.length < 1000 ∧ D.nx σ (upd H3 a (.ins C dx' (putF f z fs')))

section
variable {X : Cx} {o e value : Expr} {f : Str} {pos pos' tpos : Pos} {ta tv : TE}
theorem pe_fld (he : PE X e ta) (hb : attributeBase e f X.env (eval e X.env) = eval e X.env) : PE X (.Attribute e f pos) (tFld X.K ta f) := by
  intro pins s σ H Q I h
  refine attr_of hb (thn (he pins s σ H _ I h) fun u s1 ⟨x, H1, I1, rx, a, C, dx, fs, v, ex, ea, c, n, l, q⟩ => ?_)
  subst ex
  obtain rfl : u = Value.ref a := rx
  exact getattr_ok I1 ea c n l fun u' s2 I2 ru => ⟨v, H1, I2, ru, q⟩
theorem pe_con (he : PE X e ta) (hb : attributeBase e f X.env (eval e X.env) = eval e X.env) : PE X (.Attribute e f pos) (tCon X.K ta f) := by
  intro pins s σ H Q I h
  refine attr_of hb (thn (he pins s σ H _ I h) fun u s1 ⟨x, H1, I1, rx, a, C, dx, fs, v, u0, ex, ea, c, k, l, q⟩ => ?_)
  subst ex
  obtain rfl : u = Value.ref a := rx
  exact getcon_ok I1 ea c k l fun s2 I2 => ⟨v, H1, I2, k.rel, q⟩
theorem ps_fld (ha : PE X o ta) (hv : PE X value tv) (hs : swapsWith value (some (.Attribute o f pos')) pos.line X.env = pure false) : PS X (.Assign [.Attribute o f pos'] value pos) (sFld X.K ta tv f) := by
  intro pins s σ H D I h
  refine plainObj_wpAny_Assign_Attribute (thn (hv pins s σ H _ I h) fun u s1 ⟨y, H1, I1, ry, q⟩ => thn (ha pins s1 σ H1 _ I1 q) fun ov s2 ⟨x, H2, I2, rx, a, C, dx, fs, ex, ea, c, n, l, q2⟩ => ?_) hs
  subst ex
  obtain rfl : ov = Value.ref a := rx
  exact setattr_ok I2 ea c n l ry fun s3 I3 => ⟨σ, _, I3, q2⟩
theorem ps_fldaug {op : Operator} {rd : V → V → Hp → VK → Prop} (ha : PE X o ta) (hv : PE X value tv) (hop : InOp X op rd) : PS X (.AugAssign (.Attribute o f tpos) op value pos) (sFldAug X.K ta tv rd f) := by
  intro pins s σ H D I h
  refine wpAny_AugAssign_AttributeAny (thn (ha pins s σ H _ I h) fun ov s1 ⟨x, H1, I1, rx, a, C, dx, fs, v, ex, ea, c, n, l, q⟩ => ?_)
  subst ex
  obtain rfl : ov = Value.ref a := rx
  refine getattr_ok I1 ea c n l fun u s2 I2 ru => thn (hv pins s2 σ H1 _ I2 q) fun w3 s3 ⟨y, H2, I3, ry, q3⟩ => thn (hop pins s3 σ H2 v y u w3 _ I3 ru ry q3) fun w4 s4 ⟨z, H3, I4, rz, dx', fs', ea', l', q4⟩ => ?_
  exact setattr_ok I4 ea' c n l' rz fun s5 I5 => ⟨σ, _, I5, q4⟩
def rAdd : V → V → Hp → VK → Prop := fun x y H Q => ∃ i j, x = .int i ∧ y = .int j ∧ Q (.int (i + j)) H
def rSub : V → V → Hp → VK → Prop := fun x y H Q => ∃ i j, x = .int i ∧ y = .int j ∧ Q (.int (i - j)) H
theorem in_add : InOp X .Add rAdd := by
  rintro pins s σ H x y u v Q I rx ry ⟨i, j, rfl, rfl, q⟩
  obtain ⟨t, rfl⟩ := (show ∃ t, u = Value.int i t from rx)
  obtain ⟨t', rfl⟩ := (show ∃ t', v = Value.int j t' from ry)
  exact PyProof.Rows.iadd_int ⟨.int (i + j), H, I.tok _, ⟨_, rfl⟩, q⟩
theorem in_sub : InOp X .Sub rSub := by
  rintro pins s σ H x y u v Q I rx ry ⟨i, j, rfl, rfl, q⟩
  obtain ⟨t, rfl⟩ := (show ∃ t, u = Value.int i t from rx)
  obtain ⟨t', rfl⟩ := (show ∃ t', v = Value.int j t' from ry)
  exact PyProof.Rows.isub_int ⟨.int (i - j), H, I.tok _, ⟨_, rfl⟩, q⟩

/-- what is between an instance and its method: the tree of a method call -/
theorem methcall_of {pl : Sem Bool} {m : Str} {apos : Pos} {args : List Expr} {pins : List (Addr × Obj)} {s : Shared} {σ : St} {H : Hp} {Q : Value → Shared → Prop} {te : TE} (he : PE X e te) (I : Inv X pins σ H s)
    (h : te σ H fun x H1 => ∃ a C dx fs g, x = .ref a ∧ H1 a = some (.ins C dx fs) ∧ Cls X.K C ∧ Meth X.K C m g ∧ fs.lookup m = none ∧
      ∀ s1, Inv X pins σ H1 s1 → wpAny (model X.prog X.w) X.A (callWith pos (.ref g) [.ref a] (backTo pos (starEach args X.env)) (backToKw pos (keywordEach [] X.env))) Q X.xe s1)
    (ht : eval (.Call (.Attribute e m apos) args [] pos) X.env = (do
      let ov ← eval e X.env
      standAt apos.atName
      let (f, first) ← holding [ov] (getMethod ov m pl)
      callWith pos f first (backTo pos (starEach args X.env)) (backToKw pos (keywordEach [] X.env)))) :
    wpAny (model X.prog X.w) X.A (eval (.Call (.Attribute e m apos) args [] pos) X.env) Q X.xe s := by
  refine PySem.W.methodCall_KW (pl := pl) (thn (he pins s σ H _ I h) fun u s1 ⟨x, H1, I1, rx, a, C, dx, fs, g, ex, ea, c, k, l, q⟩ => ?_) ht
  subst ex
  obtain rfl : u = Value.ref a := rx
  exact getmeth_ok I1 ea c k l (q s1 I1)
end

/-! ### isinstance -/
section
variable {X : Cx} {pins : List (Addr × Obj)} {σ : St} {H : Hp} {s : Shared} {A : Around} {E : Value → Shared → Prop} {Q : Value → Shared → Prop} {c : Value} {b : Bool}
/-- the type of a value, as the fragment's deciders take it; for an instance its class -/
inductive TyOf (K : PySem.W.Frag) (H : Hp) : V → Value → Prop where
  | non : TyOf K H .non (.type "NoneType")
  | bl (x : Bool) : TyOf K H (.bl x) (.type "bool")
  | int (i : Int) : TyOf K H (.int i) (.type "int")
  | str (x : Str) : TyOf K H (.str x) (.type "str")
  | flt (x : UInt64) : TyOf K H (.flt x) (.type "float")
  | lst {a : Addr} {xs : List V} (e : H a = some (.lst xs)) : TyOf K H (.ref a) (.type "list")
  | frz {a : Addr} {o : Obj} {xs : List V} (e : H a = some (.frz o (.lst xs))) : TyOf K H (.ref a) (.type "list")
  | tup {a : Addr} {xs : List V} (e : H a = some (.tup xs)) : TyOf K H (.ref a) (.type "tuple")
  | dK {a : Addr} {kvs : List (Key × V)} (e : H a = some (.dK kvs)) : TyOf K H (.ref a) (.type "dict")
  | dT {a : Addr} {kvs : List (List Key × V)} (e : H a = some (.dT kvs)) : TyOf K H (.ref a) (.type "dict")
  | ins {a C dx : Addr} {fs : List (Str × V)} (e : H a = some (.ins C dx fs)) (cl : Cls K C) (ha : PySem.W.findIn K (.ref C) "__class__" = some (some (.builtin "object.__class__")))
      (hn : PySem.W.specialIn K (.builtin "object.__class__") "__get__" = some (some (.builtin "getset_descriptor.__get__"))) (htk : PySem.W.takesIn K (.builtin "object.__class__") = some true)
      (hm : PySem.W.mroIn K C (.type "object") = some true) : TyOf K H (.ref a) (.ref C)
/-- isinstance(x, c) for one class c, a built-in or an own one: kitOne's answer -/
theorem isinst_ok {x : V} {u t : Value} (I : Inv X pins σ H s) (rx : RelV x u) (ty : TyOf X.K H x t) (e : PySem.W.kitOne X.K t c = some b) (h : ∀ tk, Q (.bool b) { s with toks := tk }) :
    wpAny (model X.prog X.w) A (call (.builtin "isinstance") [u, c]) Q E s := by
  cases ty with
  | non => cases (show u = Value.none from rx); exact PySem.W.kia_one PySem.W.kitx_none I.kIn True.intro e (fun z => nomatch z) h
  | bl y => cases (show u = Value.bool y from rx); exact PySem.W.kia_one PySem.W.kitx_bool I.kIn True.intro e (fun z => nomatch z) h
  | int i => obtain ⟨t, q⟩ := (show ∃ t, u = Value.int i t from rx); cases q; exact PySem.W.kia_one PySem.W.kitx_int I.kIn True.intro e (fun z => nomatch z) h
  | str y => obtain ⟨t, q⟩ := (show ∃ t, u = Value.str y t from rx); cases q; exact PySem.W.kia_one PySem.W.kitx_str I.kIn True.intro e (fun z => nomatch z) h
  | flt y => obtain ⟨t, q⟩ := (show ∃ t, u = Value.float y t from rx); cases q; exact PySem.W.kia_one PySem.W.kitx_float I.kIn True.intro e (fun z => nomatch z) h
  | @lst a xs ea =>
    cases (show u = Value.ref a from rx)
    obtain ⟨_, _, n, _, h1⟩ := (show ObjOk X.prog X.w H s.heap a (.lst xs) from I.hok a _ ea)
    exact PySem.W.kia_one PySem.W.kitx_list I.kIn ⟨_, h1, rfl⟩ e (fun z => nomatch z) h
  | @frz a ob xs ea =>
    cases (show u = Value.ref a from rx)
    obtain ⟨_, _, _, n, _, h1⟩ := (show ObjOk X.prog X.w H s.heap a (.frz ob (.lst xs)) from I.hok a _ ea)
    exact PySem.W.kia_one PySem.W.kitx_list I.kIn ⟨_, h1, rfl⟩ e (fun z => nomatch z) h
  | @tup a xs ea =>
    cases (show u = Value.ref a from rx)
    obtain ⟨_, _, _, p⟩ := (show ObjOk X.prog X.w H s.heap a (.tup xs) from I.hok a _ ea)
    obtain ⟨o, h1, h2, _⟩ := p
    exact PySem.W.kia_one PySem.W.kitx_tuple I.kIn ⟨o, h1, h2⟩ e (fun z => nomatch z) h
  | @dK a kvs ea =>
    cases (show u = Value.ref a from rx)
    obtain ⟨_, _, vs, _, p⟩ := (show ObjOk X.prog X.w H s.heap a (.dK kvs) from I.hok a _ ea)
    obtain ⟨o, es, ep, h1, h2, _⟩ := p
    exact PySem.W.kia_one PySem.W.kitx_dict I.kIn ⟨o, h1, h2.1⟩ e (fun z => nomatch z) h
  | @dT a kvs ea =>
    cases (show u = Value.ref a from rx)
    obtain ⟨_, _, xs, _, o, es, ep, h1, h2, _⟩ := (show ObjOk X.prog X.w H s.heap a (.dT kvs) from I.hok a _ ea)
    exact PySem.W.kia_one PySem.W.kitx_dict I.kIn ⟨o, h1, h2.1⟩ e (fun z => nomatch z) h
  | @ins a C dx fs ea cl ha hn htk hm =>
    cases (show u = Value.ref a from rx)
    obtain ⟨mA, O, _⟩ := ins_get I.hok ea
    obtain ⟨od, J, _⟩ := O.look
    exact PySem.W.kia_one (PySem.W.kitx_own (cl.get _) cl.hd ha hn htk hm) I.kIn J e (fun z => nomatch z) h
end
end L2

namespace L2
open PySem PySem.Spec PyProof.Rows

/-! ### room -/
structure Room (k : Nat) (A : Around) : Prop where
  hd : A.handled = none
  dp : A.depth + 3 * k + 5 < recursionLimit
  un : A.units + 16 * k + 200 < cLine
theorem Room.mono {j k : Nat} {A : Around} (r : Room k A) (h : j ≤ k) : Room j A := ⟨r.hd, by have := r.dp; omega, by have := r.un; omega⟩
theorem Room.deeper {k : Nat} {A : Around} (r : Room (k + 1) A) (env : Env) : Room k (A.deeper env) :=
  ⟨r.hd, by have := r.dp; show A.depth + 1 + 3 * k + 5 < _; omega, by have := r.un; show A.units + 3 + 16 * k + 200 < _; omega⟩
theorem Room.in1 {k : Nat} {A : Around} (r : Room (k + 1) A) : Room k A.in1 :=
  ⟨r.hd, by have := r.dp; show A.depth + 3 * k + 5 < _; omega, by have := r.un; show A.units + 1 + 16 * k + 200 < _; omega⟩
theorem make_depth {A : Around} {C : Addr} {us : List Value} {kw : List (Str × Value)} : (A.under (.builtin "type.__call__" ⟨.ref C :: us, kw⟩)).depth = A.depth + 1 := by
  first | rfl | simp [Around.under, Code.weight, Code.isCreation, Code.isGuard, Code.isCaller, Code.frames, Code.isFrame, guardIds]
theorem make_units {A : Around} {C : Addr} {us : List Value} {kw : List (Str × Value)} : (A.under (.builtin "type.__call__" ⟨.ref C :: us, kw⟩)).units = A.units + 1 := by
  first | rfl | simp [Around.under, Code.cUnits, Code.frames, Code.isFrame]
theorem Room.make {k : Nat} {A : Around} (r : Room (k + 1) A) (C : Addr) (us : List Value) (kw : List (Str × Value)) : Room k (A.under (.builtin "type.__call__" ⟨.ref C :: us, kw⟩)) :=
  ⟨r.hd, by have := r.dp; rw [make_depth]; omega, by have := r.un; rw [make_units]; omega⟩
theorem Room.depth {k : Nat} {A : Around} (r : Room k A) : A.depth < recursionLimit := by have := r.dp; omega
theorem Room.units {k : Nat} {A : Around} (r : Room k A) : A.units + 64 < cLine := by have := r.un; omega
theorem Room.units0 {k : Nat} {A : Around} (r : Room k A) : A.units < cLine := by have := r.un; omega

/-! ### argument lists and displays -/
def tNil : TA := fun _ H Q => Q [] H
def tCons (ta : TE) (tr : TA) : TA := fun σ H Q => ta σ H fun x H1 => tr σ H1 fun xs H2 => Q (x :: xs) H2
section
variable {X : Cx} {e : Expr} {es : List Expr} {te : TE} {t : TA} {pos : Pos}
theorem pa_nil : PA X [] tNil := fun _ _ _ _ H Q I h => Calls.spliced_nil ⟨[], H, I, .nil, h⟩
theorem pa_cons (ha : PE X e te) (hr : PA X es t) (hs : starEach (e :: es) X.env = (false, eval e X.env) :: starEach es X.env := by rfl) : PA X (e :: es) (tCons te t) := by
  intro pos pins s σ H Q I h
  rw [hs]
  show wpAny _ _ (spliced ((false, eval e X.env) :: backTo pos (starEach es X.env))) _ _ s
  refine Calls.spliced_cons (thn (ha pins s σ H _ I h) fun u s1 ⟨x, H1, I1, r1, q1⟩ => ?_)
  exact thn (hr pos pins s1 σ H1 _ I1 q1) fun us s2 ⟨xs, H2, I2, r2, q2⟩ => ⟨x :: xs, H2, I2, .cons r1 r2, q2⟩

/-- a tuple, a list of written items -/
def tTup (t : TA) : TE := fun σ H Q => t σ H fun xs H1 => xs.length ≤ sizeLine ∧ ∀ p, H1 p = none → Q (.ref p) (upd H1 p (.tup xs))
def tLst (t : TA) : TE := fun σ H Q => t σ H fun xs H1 => xs.length ≤ sizeLine ∧ ∀ p, H1 p = none → Q (.ref p) (upd H1 p (.lst xs))
theorem pe_tup {x1} (h : PA X es t) : PE X (.Tuple es x1 pos) (tTup t) := by
  intro pins s σ H Q I hq
  refine wpAny_Tuple_spliced (thn (h pos pins s σ H _ I hq) fun us s1 ⟨xs, H1, I1, r, z, q⟩ => ⟨by rw [← r.length]; exact z, ?_⟩)
  have hf : H1 s1.heap.objs.size = none := I1.hok.fresh (Nat.le_refl _)
  refine ⟨.ref s1.heap.objs.size, upd H1 s1.heap.objs.size (.tup xs), I1.laid (t' := s1.toks) (fun b u e => Heap.get?_push_of_some _ e) (Nat.le_refl _) ?_, rfl, q _ hf⟩
  exact ⟨z, us, r, ⟨_, Heap.get?_push_size _ rfl, rfl, _, rfl⟩⟩
theorem pe_lst (h : PA X es t) : PE X (.List es pos) (tLst t) := by
  intro pins s σ H Q I hq
  refine wpAny_List_spliced (thn (h pos pins s σ H _ I hq) fun us s1 ⟨xs, H1, I1, r, z, q⟩ => ⟨by rw [← r.length]; exact z, ?_⟩)
  have hf : H1 s1.heap.objs.size = none := I1.hok.fresh (Nat.le_refl _)
  refine ⟨.ref s1.heap.objs.size, upd H1 s1.heap.objs.size (.lst xs), I1.laid (t' := s1.toks) (fun b u e => Heap.get?_push_of_some _ e) (Nat.le_refl _) ?_, rfl, q _ hf⟩
  exact ⟨z, us, 0, r, Heap.get?_push_size _ rfl⟩
end

/-! ### what a def promises -/
/-- a def's promise: the bound arguments in the parameters' order, the heap, the wanted end, the wanted exception -/
abbrev Sp := List V → Hp → VK → XK → Prop
/-- how an exception lies behind a call (file 08 gives it): the callers' frames, abstract heap and state ahead of the call, the wish, the exception, the state -/
abbrev CXT := List Env → Hp → Shared → XK → Value → Shared → Prop

/-- the state at a call -/
structure Env0 (P : Program) (w : World) (K : PySem.W.Frag) (mg : Str → Option Value) (base : Heap) (A : Around) (outer : List Env) (s : Shared) (H : Hp) : Prop where
  frames : A.frames = some outer
  mod : Mod K mg base
  bs : ∀ b o, base.get? b = some o → s.heap.get? b = some o ∧ H b = none
  bsz : base.objs.size ≤ s.heap.objs.size
  funs : s.heap.FunFrames base outer
  frf : ∀ b ∈ frs outer, H b = none
  hok : HOk P w H s.heap
  bare : AllBare s.gens
/-- a call's end -/
def CE (outer : List Env) (P : Program) (w : World) (H : Hp) (s : Shared) (Q : VK) (u : Value) (s' : Shared) : Prop :=
  ∃ v H', s'.os = s.os ∧ AllBare s'.gens ∧ Un (frs outer) [] H H' s.heap s'.heap ∧ HOk P w H' s'.heap ∧ RelV v u ∧ Q v H'
def CR (CX : CXT) (outer : List Env) (P : Program) (w : World) (H : Hp) (s : Shared) (Q : VK) (E : XK) (r : Result) (s' : Shared) : Prop :=
  match r with
  | .ok (.ret u) => CE outer P w H s Q u s'
  | .ok _ => False
  | .error e => CX outer H s E e s'
structure FnOk (P : Program) (w : World) (K : PySem.W.Frag) (mg : Str → Option Value) (base : Heap) (CX : CXT) (k : Nat) (f : Addr) (fd : FuncData) (ps : List Str) (sp : Sp) : Prop where
  len : ∀ vs H Q E, sp vs H Q E → vs.length = ps.length
  run : ∀ (A : Around) (outer : List Env) (s : Shared) (H : Hp) (args : Args) (us : List Value) (vs : List V) (Q : VK) (E : XK), Room k A → Env0 P w K mg base A outer s H → BindsTo s fd args (ps.zip us) → Vals vs us → sp vs H Q E →
    codeAny (model P w) A (.call (.ref f) args) (CR CX outer P w H s Q E) s
theorem FnOk.mono {P : Program} {w : World} {K : PySem.W.Frag} {mg : Str → Option Value} {base : Heap} {CX : CXT} {j k : Nat} {f : Addr} {fd : FuncData} {ps : List Str} {sp : Sp} (F : FnOk P w K mg base CX j f fd ps sp) (h : j ≤ k) :
    FnOk P w K mg base CX k f fd ps sp := ⟨F.len, fun A outer s H args us vs Q E hr => F.run A outer s H args us vs Q E (hr.mono h)⟩
/-- a weaker promise -/
theorem FnOk.imp {P : Program} {w : World} {K : PySem.W.Frag} {mg : Str → Option Value} {base : Heap} {CX : CXT} {k : Nat} {f : Addr} {fd : FuncData} {ps : List Str} {sp sp' : Sp} (F : FnOk P w K mg base CX k f fd ps sp)
    (h : ∀ vs H Q E, sp' vs H Q E → sp vs H Q E) : FnOk P w K mg base CX k f fd ps sp' :=
  ⟨fun vs H Q E q => F.len vs H Q E (h _ _ _ _ q), fun A outer s H args us vs Q E hr he hb hv hs => F.run A outer s H args us vs Q E hr he hb hv (h _ _ _ _ hs)⟩

theorem Env0.make {P : Program} {w : World} {K : PySem.W.Frag} {mg : Str → Option Value} {base : Heap} {A : Around} {outer : List Env} {s : Shared} {H : Hp} (e : Env0 P w K mg base A outer s H) (C : Addr) (us : List Value) (kw : List (Str × Value)) :
    Env0 P w K mg base (A.under (.builtin "type.__call__" ⟨.ref C :: us, kw⟩)) outer s H := ⟨by first | exact e.frames | (simpa [Around.under, Code.envs, Code.isFrame, pushEnvs] using e.frames), e.mod, e.bs, e.bsz, e.funs, e.frf, e.hok, e.bare⟩
theorem Env0.in1 {P : Program} {w : World} {K : PySem.W.Frag} {mg : Str → Option Value} {base : Heap} {A : Around} {outer : List Env} {s : Shared} {H : Hp} (e : Env0 P w K mg base A outer s H) :
    Env0 P w K mg base A.in1 outer s H := ⟨e.frames, e.mod, e.bs, e.bsz, e.funs, e.frf, e.hok, e.bare⟩

section
variable {X : Cx} {pins : List (Addr × Obj)} {σ : St} {H : Hp} {s s' : Shared}
/-- from a body: what a callee wants -/
theorem Inv.env0 (I : Inv X pins σ H s) : Env0 X.prog X.w X.K X.mg X.base X.A X.stack s H :=
  ⟨I.ok.frames, I.ok.mod, I.bs, Nat.le_trans I.ok.bsz I.sz, I.stack, I.stkFree, I.hok, I.bare⟩
/-- behind a call -/
theorem Inv.after {Q : VK} {u : Value} (I : Inv X pins σ H s) (h : CE X.stack X.prog X.w H s Q u s') : EP X pins σ Q u s' := by
  obtain ⟨v, H', os, bare, un, hok, r, q⟩ := h
  obtain ⟨hh, g, d, t, os'⟩ := s'
  obtain rfl : os' = s.os := os
  exact ⟨v, H', I.call (h' := hh) (g' := g) (d' := d) (t' := t) (ch := []) un hok bare (fun b z => absurd z (by simp)), r, q⟩
end

/-! ### calls -/
/-- f(..): the written arguments, then the defaults dvs; E: what is wanted of an exception -/
def tCall (sp : Sp) (dvs : List V) (E : XK) (t : TA) : TE := fun σ H Q => t σ H fun vs H1 => sp (vs ++ dvs) H1 Q E
/-- o.m(..) of an instance of the class at C -/
def tMeth (C : Addr) (m : Str) (sp : Sp) (dvs : List V) (E : XK) (ta : TE) (t : TA) : TE := fun σ H Q => ta σ H fun x H1 => ∃ a dx fs, x = .ref a ∧ H1 a = some (.ins C dx fs) ∧ fs.lookup m = none ∧
  t σ H1 fun vs H2 => sp (x :: (vs ++ dvs)) H2 Q E
/-- C(..): a new instance and its dict, then __init__ -/
def tMake (C : Addr) (sp : Sp) (dvs : List V) (E : XK) (t : TA) : TE := fun σ H Q => t σ H fun vs H1 => ∀ x dx, H1 x = none → H1 dx = none → dx ≠ x →
  sp (.ref x :: (vs ++ dvs)) (upd (upd H1 dx (.own x)) x (.ins C dx [])) (fun v H2 => v = .non ∧ Q (.ref x) H2) E

/-- how the parameters are bound: us the positional arguments, kw the keywords' values by name, ds the defaults that fill up -/
def Binds (K : PySem.W.Frag) (fd : FuncData) (ps : List Str) (ds : List Value) : Prop :=
  ∀ (s : Shared) (us : List Value), K.In s.heap → (us ++ ds).length = ps.length → BindsTo s fd ⟨us, []⟩ (ps.zip (us ++ ds))
/-- every parameter is given -/
theorem Binds.all {K : PySem.W.Frag} {fd : FuncData} {ps : List Str} (h : ∀ us : List Value, us.length = ps.length → bindArgs fd ⟨us, []⟩ = pure (ps.zip us)) : Binds K fd ps [] := fun s us _ hl => by
  rw [List.append_nil] at hl ⊢
  exact .of_eq (h us hl)

/-- an exception of a callee reaches what this body wants of exceptions -/
def Passes (CX : CXT) (X : Cx) (E : XK) : Prop := ∀ (pins : List (Addr × Obj)) (σ : St) (H : Hp) (s : Shared) (e : Value) (s' : Shared), Inv X pins σ H s → CX X.stack H s E e s' → X.xe e s'

section
variable {X : Cx} {CX : CXT} {k : Nat} {f C : Addr} {fd : FuncData} {ps : List Str} {sp : Sp} {dvs : List V} {ds : List Value} {E : XK} {x m : Str} {p pos apos : Pos} {e o : Expr} {es : List Expr} {ta : TE} {t : TA}

/-- the callee runs -/
theorem run_fn {pins : List (Addr × Obj)} {σ : St} {H : Hp} {s : Shared} {Q : VK} {us : List Value} {vs : List V} (F : FnOk X.prog X.w X.K X.mg X.base CX k f fd ps sp) (hr : Room k X.A) (hb : Binds X.K fd ps ds) (hd : Vals dvs ds) (hx : Passes CX X E)
    (I : Inv X pins σ H s) (r : Vals vs us) (h : sp (vs ++ dvs) H Q E) : wpAny (model X.prog X.w) X.A (call (.ref f) us) (EP X pins σ Q) X.xe s := by
  have r2 : Vals (vs ++ dvs) (us ++ ds) := r.append hd
  have hl : (us ++ ds).length = ps.length := by rw [← r2.length]; exact F.len _ _ _ _ h
  refine wpAny_call (codeAny_mono (F.run X.A X.stack s H ⟨us, []⟩ (us ++ ds) (vs ++ dvs) Q E hr I.env0 (hb s us I.kIn hl) r2 h) fun r s' hq => ?_)
  cases r with
  | error e => exact hx pins σ H s e s' I hq
  | ok fl =>
    cases fl with
    | ret u => exact I.after hq
    | next => exact False.elim hq
    | brk => exact False.elim hq
    | cont => exact False.elim hq

theorem pe_call (F : FnOk X.prog X.w X.K X.mg X.base CX k f fd ps sp) (hr : Room k X.A) (hg : Gl X x) (hm : X.mg x = some (.ref f)) (hk : PySem.W.keepIn X.K (.ref f) = true) (hb : Binds X.K fd ps ds) (hd : Vals dvs ds) (hx : Passes CX X E)
    (ha : PA X (e :: es) t) (hdb : (x == ("__debug__" : Str)) = false := by decide) (he : starEach (e :: es) X.env = (false, eval e X.env) :: starEach es X.env := by rfl) (hpl : (backTo pos (starEach es X.env)).any (·.1) = false := by rfl) :
    PE X (.Call (.Name x p) (e :: es) [] pos) (tCall sp dvs E t) := by
  intro pins s σ H Q I h
  refine wpAny_Call_Name_kw (ld_glob I hg hm ?_ hdb)
  refine PySem.W.callWith_K (h₀ := X.base) I.ok.mod.kin hk (thn (ha pos pins s σ H _ I h) fun us s1 ⟨vs, H1, I1, r, q⟩ => ⟨I1.kIn, ?_⟩) he hpl
  exact run_fn F hr hb hd hx I1 r q
theorem pe_call0 (F : FnOk X.prog X.w X.K X.mg X.base CX k f fd ps sp) (hr : Room k X.A) (hg : Gl X x) (hm : X.mg x = some (.ref f)) (hk : PySem.W.keepIn X.K (.ref f) = true) (hb : Binds X.K fd ps ds) (hd : Vals dvs ds) (hx : Passes CX X E)
    (hdb : (x == ("__debug__" : Str)) = false := by decide) : PE X (.Call (.Name x p) [] [] pos) (tCall sp dvs E tNil) := by
  intro pins s σ H Q I h
  refine wpAny_Call_Name_kw (ld_glob I hg hm ?_ hdb)
  exact PySem.W.callWith_K0 I.kIn hk (run_fn (us := []) F hr hb hd hx I .nil h)

/-- o.m(e, ..) -/
theorem pe_meth {pl : Sem Bool} (he : PE X o ta) (c : Cls X.K C) (hm : Meth X.K C m f) (F : FnOk X.prog X.w X.K X.mg X.base CX k f fd ps sp) (hr : Room k X.A) (hb : Binds X.K fd ps ds) (hd : Vals dvs ds) (hx : Passes CX X E) (ha : PA X (e :: es) t)
    (hst : starEach (e :: es) X.env = (false, eval e X.env) :: starEach es X.env := by rfl) (hpl : (backTo pos (starEach es X.env)).any (·.1) = false := by rfl)
    (ht : eval (.Call (.Attribute o m apos) (e :: es) [] pos) X.env = (do
      let ov ← eval o X.env
      standAt apos.atName
      let (f, first) ← holding [ov] (getMethod ov m pl)
      callWith pos f first (backTo pos (starEach (e :: es) X.env)) (backToKw pos (keywordEach [] X.env))) := by rfl) :
    PE X (.Call (.Attribute o m apos) (e :: es) [] pos) (tMeth C m sp dvs E ta t) := by
  intro pins s σ H Q I h
  refine PySem.W.methodCall_KW (pl := pl) (thn (he pins s σ H _ I h) fun u s1 ⟨x, H1, I1, rx, a, dx, fs, ex, ea, l, q⟩ => ?_) ht
  subst ex
  obtain rfl : u = Value.ref a := rx
  refine getmeth_ok I1 ea c hm l ?_
  refine PySem.W.callWith_K (first := [.ref a]) (h₀ := X.base) I.ok.mod.kin hm.kp (thn (ha pos pins s1 σ H1 _ I1 q) fun us s2 ⟨vs, H2, I2, r, q2⟩ => ⟨I2.kIn, ?_⟩) hst hpl
  exact run_fn (us := .ref a :: us) (vs := .ref a :: vs) F hr hb hd hx I2 (.cons rfl r) q2
/-- o.m() -/
theorem pe_meth0 {pl : Sem Bool} (he : PE X o ta) (c : Cls X.K C) (hm : Meth X.K C m f) (F : FnOk X.prog X.w X.K X.mg X.base CX k f fd ps sp) (hr : Room k X.A) (hb : Binds X.K fd ps ds) (hd : Vals dvs ds) (hx : Passes CX X E)
    (ht : eval (.Call (.Attribute o m apos) [] [] pos) X.env = (do
      let ov ← eval o X.env
      standAt apos.atName
      let (f, first) ← holding [ov] (getMethod ov m pl)
      callWith pos f first (backTo pos (starEach [] X.env)) (backToKw pos (keywordEach [] X.env))) := by rfl) :
    PE X (.Call (.Attribute o m apos) [] [] pos) (tMeth C m sp dvs E ta tNil) := by
  intro pins s σ H Q I h
  refine PySem.W.methodCall_KW (pl := pl) (thn (he pins s σ H _ I h) fun u s1 ⟨x, H1, I1, rx, a, dx, fs, ex, ea, l, q⟩ => ?_) ht
  subst ex
  obtain rfl : u = Value.ref a := rx
  refine getmeth_ok I1 ea c hm l ?_
  exact PySem.W.callWith_K0 (first := [.ref a]) I1.kIn hm.kp (run_fn (us := [.ref a]) (vs := [.ref a]) F hr hb hd hx I1 (.cons rfl .nil) q)

/-- what a class must have to be made -/
structure Mk (K : PySem.W.Frag) (C f : Addr) : Prop where
  makes : PySem.W.makesIn K C = true
  init : PySem.W.findIn K (.ref C) "__init__" = some (some (.ref f))
  fn : PySem.W.isFn K (.ref f) = true
  kp : PySem.W.keepIn K (.ref C) = true

theorem run_make {pins : List (Addr × Obj)} {σ : St} {H : Hp} {s : Shared} {Q : VK} {us : List Value} {vs : List V} (M : Mk X.K C f) (F : FnOk X.prog X.w X.K X.mg X.base CX k f fd ps sp) (hr : Room (k + 1) X.A) (hb : Binds X.K fd ps ds) (hd : Vals dvs ds)
    (hx : Passes CX X E) (I : Inv X pins σ H s) (r : Vals vs us)
    (h : ∀ x dx, H x = none → H dx = none → dx ≠ x → sp (.ref x :: (vs ++ dvs)) (upd (upd H dx (.own x)) x (.ins C dx [])) (fun v H2 => v = .non ∧ Q (.ref x) H2) E) :
    wpAny (model X.prog X.w) X.A (call (.ref C) us) (EP X pins σ Q) X.xe s := by
  have hq := h (s.heap.objs.size + 1) s.heap.objs.size (I.hok.fresh (Nat.le_succ _)) (I.hok.fresh (Nat.le_refl _)) (Nat.ne_of_lt (Nat.lt_succ_self _))
  have I2 := Inv.made (C := C) I
  have r2 : Vals (V.ref (s.heap.objs.size + 1) :: (vs ++ dvs)) (Value.ref (s.heap.objs.size + 1) :: (us ++ ds)) := .cons rfl (r.append hd)
  have hl : (Value.ref (s.heap.objs.size + 1) :: us ++ ds).length = ps.length := by
    have e := r2.length
    rw [F.len _ _ _ _ hq] at e
    exact e.symm
  refine wpAny_call (make_map (f := f) I.kIn M.makes M.init (beq_iff_eq.mp M.fn) (codeAny_mono (F.run _ X.stack _ _ ⟨Value.ref (s.heap.objs.size + 1) :: us, []⟩ (Value.ref (s.heap.objs.size + 1) :: (us ++ ds)) _ _ E (hr.make C us [])
    (I2.env0.make C us []) (hb _ (Value.ref (s.heap.objs.size + 1) :: us) I2.kIn hl) r2 hq) fun r s' hq' => ?_))
  cases r with
  | error e => exact hx pins σ _ _ e s' I2 hq'
  | ok fl =>
    cases fl with
    | ret u =>
      obtain ⟨v, H', I3, rv, ev, q3⟩ := I2.after hq'
      subst ev
      exact ⟨rv, ⟨V.ref (s.heap.objs.size + 1), H', I3, rfl, q3⟩⟩
    | next => exact False.elim hq'
    | brk => exact False.elim hq'
    | cont => exact False.elim hq'
theorem pe_make (M : Mk X.K C f) (F : FnOk X.prog X.w X.K X.mg X.base CX k f fd ps sp) (hr : Room (k + 1) X.A) (hg : Gl X x) (hm : X.mg x = some (.ref C)) (hb : Binds X.K fd ps ds) (hd : Vals dvs ds) (hx : Passes CX X E)
    (ha : PA X (e :: es) t) (hdb : (x == ("__debug__" : Str)) = false := by decide) (he : starEach (e :: es) X.env = (false, eval e X.env) :: starEach es X.env := by rfl) (hpl : (backTo pos (starEach es X.env)).any (·.1) = false := by rfl) :
    PE X (.Call (.Name x p) (e :: es) [] pos) (tMake C sp dvs E t) := by
  intro pins s σ H Q I h
  refine wpAny_Call_Name_kw (ld_glob I hg hm ?_ hdb)
  refine PySem.W.callWith_K (h₀ := X.base) I.ok.mod.kin M.kp (thn (ha pos pins s σ H _ I h) fun us s1 ⟨vs, H1, I1, r, q⟩ => ⟨I1.kIn, ?_⟩) he hpl
  exact run_make M F hr hb hd hx I1 r q
theorem pe_make0 (M : Mk X.K C f) (F : FnOk X.prog X.w X.K X.mg X.base CX k f fd ps sp) (hr : Room (k + 1) X.A) (hg : Gl X x) (hm : X.mg x = some (.ref C)) (hb : Binds X.K fd ps ds) (hd : Vals dvs ds) (hx : Passes CX X E)
    (hdb : (x == ("__debug__" : Str)) = false := by decide) : PE X (.Call (.Name x p) [] [] pos) (tMake C sp dvs E tNil) := by
  intro pins s σ H Q I h
  refine wpAny_Call_Name_kw (ld_glob I hg hm ?_ hdb)
  exact PySem.W.callWith_K0 I.kIn M.kp (run_make (us := []) M F hr hb hd hx I .nil h)
end

/-! ### keywords -/
/-- the values of the keywords, from the left -/
def PK (X : Cx) (kws : List Keyword) (t : TA) : Prop :=
  ∀ (pos : Pos) (pins : List (Addr × Obj)) (s : Shared) (σ : St) (H : Hp) (Q : List V → Hp → Prop), Inv X pins σ H s → t σ H Q → wpAny (model X.prog X.w) X.A (evalAll ((backToKw pos (keywordEach kws X.env)).map (·.2))) (AP X pins σ Q) X.xe s
section
variable {X : Cx} {CX : CXT} {k : Nat} {f C : Addr} {fd : FuncData} {ps ks : List Str} {sp : Sp} {E : XK} {x m : Str} {p pos apos kpos : Pos} {e o : Expr} {es : List Expr} {kws : List Keyword} {te ta : TE} {t tk : TA} {nm : Option Str}
theorem pk_nil : PK X [] tNil := fun _ _ _ _ H Q I h => wpAny_evalAll_nil ⟨[], H, I, .nil, h⟩
theorem pk_cons (ha : PE X e te) (hr : PK X kws t) : PK X (⟨nm, e, kpos⟩ :: kws) (tCons te t) := by
  intro pos pins s σ H Q I h
  show wpAny _ _ (evalAll ((do let v ← eval e X.env; standAt pos; pure v) :: (backToKw pos (keywordEach kws X.env)).map (·.2))) _ _ s
  refine wpAny_evalAll_cons (wpAny_bind (thn (ha pins s σ H _ I h) fun u s1 ⟨x, H1, I1, r1, q1⟩ => wpAny_bind (wpAny_standAt (wpAny_pure ?_))))
  exact thn (hr pos pins s1 σ H1 _ I1 q1) fun us s2 ⟨xs, H2, I2, r2, q2⟩ => ⟨x :: xs, H2, I2, .cons r1 r2, q2⟩

/-- how a call with keywords binds: g puts the positional values us and the keywords' values ws (names ks) in the parameters' order, defaults among them -/
structure KBinds (K : PySem.W.Frag) (fd : FuncData) (ps ks : List Str) (g : List Value → List Value → List Value) (gV : List V → List V → List V) : Prop where
  to : ∀ (s : Shared) (us ws : List Value), K.In s.heap → (g us ws).length = ps.length → BindsTo s fd ⟨us, ks.zip ws⟩ (ps.zip (g us ws))
  rel : ∀ {vs : List V} {us : List Value} {zs : List V} {ws : List Value}, Vals vs us → Vals zs ws → Vals (gV vs zs) (g us ws)
def tCallK (sp : Sp) (gV : List V → List V → List V) (E : XK) (t tk : TA) : TE := fun σ H Q => t σ H fun vs H1 => tk σ H1 fun zs H2 => sp (gV vs zs) H2 Q E
variable {g : List Value → List Value → List Value} {gV : List V → List V → List V}
theorem run_fnk {pins : List (Addr × Obj)} {σ : St} {H : Hp} {s : Shared} {Q : VK} {us ws : List Value} {vs zs : List V} (F : FnOk X.prog X.w X.K X.mg X.base CX k f fd ps sp) (hr : Room k X.A) (hb : KBinds X.K fd ps ks g gV) (hx : Passes CX X E)
    (I : Inv X pins σ H s) (r : Vals vs us) (rz : Vals zs ws) (h : sp (gV vs zs) H Q E) : wpAny (model X.prog X.w) X.A (call (.ref f) us (ks.zip ws)) (EP X pins σ Q) X.xe s := by
  have r2 := hb.rel r rz
  have hl : (g us ws).length = ps.length := by rw [← r2.length]; exact F.len _ _ _ _ h
  refine wpAny_call (codeAny_mono (F.run X.A X.stack s H ⟨us, ks.zip ws⟩ (g us ws) (gV vs zs) Q E hr I.env0 (hb.to s us ws I.kIn hl) r2 h) fun r s' hq => ?_)
  cases r with
  | error e => exact hx pins σ H s e s' I hq
  | ok fl =>
    cases fl with
    | ret u => exact I.after hq
    | next => exact False.elim hq
    | brk => exact False.elim hq
    | cont => exact False.elim hq
/-- f(e, .., k = v, ..) -/
theorem pe_callK (F : FnOk X.prog X.w X.K X.mg X.base CX k f fd ps sp) (hr : Room k X.A) (hg : Gl X x) (hm : X.mg x = some (.ref f)) (hk : PySem.W.keepIn X.K (.ref f) = true) (hb : KBinds X.K fd ps ks g gV) (hx : Passes CX X E)
    (ha : PA X (e :: es) t) (hkw : PK X kws tk) (hall : (backToKw pos (keywordEach kws X.env)).all (·.1.isSome) = true := by rfl) (hks : (backToKw pos (keywordEach kws X.env)).filterMap (·.1) = ks := by rfl)
    (hdb : (x == ("__debug__" : Str)) = false := by decide) (he : starEach (e :: es) X.env = (false, eval e X.env) :: starEach es X.env := by rfl)
    (hpl : ((backTo pos (starEach (e :: es) X.env)).any (·.1) || (backToKw pos (keywordEach kws X.env)).any (·.1.isNone)) = false := by rfl) :
    PE X (.Call (.Name x p) (e :: es) kws pos) (tCallK sp gV E t tk) := by
  intro pins s σ H Q I h
  refine wpAny_Call_Name_kw (ld_glob I hg hm ?_ hdb)
  refine PySem.W.callWith_KW (h₀ := X.base) I.ok.mod.kin hk hall (thn (ha pos pins s σ H _ I h) fun us s1 ⟨vs, H1, I1, r, q⟩ => ?_) hpl he
  refine thn (hkw pos pins s1 σ H1 _ I1 q) fun ws s2 ⟨zs, H2, I2, rz, q2⟩ => ⟨I2.kIn, ?_⟩
  rw [hks]
  exact run_fnk F hr hb hx I2 r rz q2
end

/-! ### a def's body keeps its promise -/
/-- names: the parameters first -/
structure FnScope (N P : List Str) (sc : Scope) : Prop where
  kind : sc.kind = .function
  co : sc.isCoroutine = false
  gen : sc.isGenerator = false
  nd : N.Nodup
  pre : N.take P.length = P
  par : ∀ x ∈ P, sc.names.lookup x = some .local ∨ sc.names.lookup x = some .cell
  nofree : ∀ y ∈ sc.names, y.2 ≠ .free

theorem bindL_out {kindOf : Str → Option NameKind} {x : Str} : ∀ {binds : List (Str × Value)} {m : Str → Option Value}, (∀ v, (x, v) ∉ binds) → bindL kindOf binds m x = m x
  | [], _, _ => rfl
  | (n, v) :: r, m, h => by
    unfold bindL
    rw [bindL_out fun w hw => h w (List.mem_cons_of_mem _ hw)]
    split
    · have : x ≠ n := by rintro rfl; exact h v List.mem_cons_self
      simp [this]
    · rfl
theorem bindC_out {kindOf : Str → Option NameKind} {x : Str} : ∀ {binds : List (Str × Value)} {m : Str → Option Value}, (∀ v, (x, v) ∉ binds) → bindC kindOf binds m x = m x
  | [], _, _ => rfl
  | (n, v) :: r, m, h => by
    unfold bindC
    rw [bindC_out fun w hw => h w (List.mem_cons_of_mem _ hw)]
    split
    · rfl
    · have : x ≠ n := by rintro rfl; exact h v List.mem_cons_self
      simp [this]
theorem bindL_get {kindOf : Str → Option NameKind} {x : Str} {v : Value} : ∀ {P : List Str} {vs : List Value} {i : Nat} {m : Str → Option Value}, P.Nodup → P[i]? = some x → vs[i]? = some v → kindOf x = some .local →
    bindL kindOf (P.zip vs) m x = some v
  | [], _, _, _, _, h, _, _ => by simp at h
  | _ :: _, [], _, _, _, _, h, _ => by simp at h
  | p :: P, w :: vs, 0, m, nd, h1, h2, hk => by
    simp at h1 h2; subst h1; subst h2
    show bindL kindOf ((p, w) :: P.zip vs) m p = _
    unfold bindL
    rw [bindL_out fun v hv => (List.nodup_cons.mp nd).1 (List.of_mem_zip hv).1, if_pos hk]
    simp
  | p :: P, w :: vs, i + 1, m, nd, h1, h2, hk => by
    show bindL kindOf ((p, w) :: P.zip vs) m x = _
    unfold bindL
    exact bindL_get (i := i) (List.nodup_cons.mp nd).2 (by simpa using h1) (by simpa using h2) hk
theorem bindC_get {kindOf : Str → Option NameKind} {x : Str} {v : Value} : ∀ {P : List Str} {vs : List Value} {i : Nat} {m : Str → Option Value}, P.Nodup → P[i]? = some x → vs[i]? = some v → kindOf x ≠ some .local →
    bindC kindOf (P.zip vs) m x = some v
  | [], _, _, _, _, h, _, _ => by simp at h
  | _ :: _, [], _, _, _, _, h, _ => by simp at h
  | p :: P, w :: vs, 0, m, nd, h1, h2, hk => by
    simp at h1 h2; subst h1; subst h2
    show bindC kindOf ((p, w) :: P.zip vs) m p = _
    unfold bindC
    rw [bindC_out fun v hv => (List.nodup_cons.mp nd).1 (List.of_mem_zip hv).1, if_neg hk]
    simp
  | p :: P, w :: vs, i + 1, m, nd, h1, h2, hk => by
    show bindC kindOf ((p, w) :: P.zip vs) m x = _
    unfold bindC
    exact bindC_get (i := i) (List.nodup_cons.mp nd).2 (by simpa using h1) (by simpa using h2) hk

/-- the names' values at the entry -/
def start (N : List Str) (vs : List V) : St := vs.map some ++ List.replicate (N.length - vs.length) none

/-- the context of a def's body, at its entry; an exception leaves the frame, then lies as CX says -/
def cxOf (CX : CXT) (P : Program) (w : World) (K : PySem.W.Frag) (mg : Str → Option Value) (base : Heap) (N : List Str) (qual : Str) (scope : Scope) (f : Addr) (cd : Value) (A : Around) (outer : List Env) (s : Shared) (H : Hp) (E : XK) : Cx where
  prog := P
  w := w
  K := K
  mg := mg
  base := base
  A := A.deeper (envOfC qual scope s.heap.objs.size f cd)
  N := N
  s₀ := s
  H₀ := H
  env := envOfC qual scope s.heap.objs.size f cd
  outer := outer
  stack := envOfC qual scope s.heap.objs.size f cd :: outer
  ex := []
  calm := true
  fn := fun _ => true
  pn := []
  xe := fun e s' => wpAny (model P w) (A.deeper (envOfC qual scope s.heap.objs.size f cd)) (leaving (envOfC qual scope s.heap.objs.size f cd) e) (fun _ s'' => CX outer H s E e s'') (fun e' s'' => CX outer H s E e' s'') s'

theorem cell_has {sc : Scope} {n : Nat} {x : Str} (h : sc.names.lookup x = some .cell) : ∃ c, (cellsFrom n sc.names []).lookup x = some c := by
  have q := PySem.W.cellsFrom_some sc.names n [] (.inl h)
  exact Option.isSome_iff_exists.mp q

theorem inv_start {CX : CXT} {P : Program} {w : World} {K : PySem.W.Frag} {mg : Str → Option Value} {base : Heap} {N ps : List Str} {qual : Str} {scope : Scope} {f : Addr} {cd : Value} {A : Around} {outer : List Env} {s s1 : Shared} {H : Hp} {E : XK} {us : List Value} {vs : List V}
    (S : FnScope N ps scope) (hd : A.handled = none) (e0 : Env0 P w K mg base A outer s H) (hl : vs.length = ps.length) (r : Vals vs us)
    (x : InCallC s s.heap.objs.size (bindL (envOfC qual scope s.heap.objs.size f cd).kindOf (ps.zip us) fun _ => none) (cellsFrom (s.heap.objs.size + 1) scope.names []) (bindC (envOfC qual scope s.heap.objs.size f cd).kindOf (ps.zip us) fun _ => none) s1) :
    Inv (cxOf CX P w K mg base N qual scope f cd A outer s H E) [] (start N vs) H s1 := by
  have hpl : ps.length ≤ N.length := by have := congrArg List.length S.pre; rw [List.length_take] at this; omega
  obtain ⟨h1, tk, rfl, hk⟩ := x.done
  have noA : ∀ b : Addr, b ∉ (cxOf CX P w K mg base N qual scope f cd A outer s H E).ex := fun b z => absurd (show b ∈ ([] : List Addr) from z) (by simp)
  refine ⟨⟨e0.mod, S.kind, rfl, rfl, Nat.le_refl _, fun y z c h1 h2 => ?_, fun y hy => ?_, fun y c _ h => ?_, fun _ => hd, Around.frames_deeper e0.frames, .inr ⟨rfl, rfl⟩, fun b z => absurd z (noA b), e0.bs, e0.bsz, fun b _ _ => noA b, fun b z => absurd z (noA b), e0.funs, e0.frf⟩,
    rfl, e0.bare, Un.kept hk, ⟨_, x.toInCall.ns, fun i y v h1 h2 h3 => ?_⟩, fun y c h => ⟨_, x.cell y c h⟩, e0.hok.fresh (Nat.le_refl _), fun y c h => ?_, fun p hp => absurd (show p ∈ ([] : List (Addr × Obj)) from hp) (by simp), e0.hok.kept hk, ?_⟩
  · exact name_of_addr x.apart (PySem.mem_of_lookup h1) (PySem.mem_of_lookup h2)
  · have hy : scope.names.lookup y = some .cell ∨ scope.names.lookup y = some .free := hy
    rcases hy with hy | hy
    · exact cell_has hy
    · exact absurd rfl (S.nofree _ (PySem.mem_of_lookup hy))
  · exact Nat.le_of_lt (x.above y c (PySem.mem_of_lookup h))
  · have hi : i < vs.length := by
      unfold start at h2
      by_cases hi : i < vs.length
      · exact hi
      · rw [List.getElem?_append_right (by simpa using hi)] at h2
        rw [List.getElem?_replicate] at h2
        split at h2 <;> cases h2
    have ha : vs[i]? = some v := by
      unfold start at h2
      rw [List.getElem?_append_left (by simpa using hi), List.getElem?_map] at h2
      cases e : vs[i]? with
      | none => rw [e] at h2; cases h2
      | some a => rw [e] at h2; cases h2; rfl
    obtain ⟨u, hu, rv⟩ := r.get ha
    have hp : ps[i]? = some y := by
      rw [← S.pre, List.getElem?_take_of_lt (by omega)]; exact h1
    have ndP : ps.Nodup := by rw [← S.pre]; exact S.nd.sublist (List.take_sublist _ _)
    refine ⟨u, rv, ?_⟩
    rcases S.par y (List.mem_of_getElem? hp) with k | k
    · exact .inl ⟨k, bindL_get ndP hp hu k⟩
    · obtain ⟨c, e⟩ := cell_has (n := s.heap.objs.size + 1) k
      refine .inr ⟨.inl k, c, e, ?_⟩
      have q := x.cell y c e
      rw [bindC_get ndP hp hu (by show scope.names.lookup y ≠ _; rw [k]; decide)] at q
      exact q
  · exact e0.hok.fresh (Nat.le_of_lt (x.above y c (PySem.mem_of_lookup h)))
  · unfold start
    show _ = N.length
    rw [List.length_append, List.length_map, List.length_replicate]
    omega

/-- THE RULE: a def (or a method) of the text, by its body. The body's reading t is chosen for each entry; it is run at the parameters' values -/
theorem fn_of {CX : CXT} {P : Program} {w : World} {K : PySem.W.Frag} {mg : Str → Option Value} {base : Heap} {k : Nat} {f : Addr} {name qual : Str} {params : Arguments} {body : List Stmt} {scope : Scope} {dV kV doc pm cdv ct oc : Value} {an od : Option Addr}
    {osl : Array (Option Value)} {N ps : List Str} {sp : Sp} (lk : K.lookup f = some ⟨oc, od, .func (PySem.W.fnOf name qual params body scope dV kV doc pm an cdv ct), osl⟩) (hcd : PySem.W.codeIn K cdv qual = true) (S : FnScope N ps scope)
    (len : ∀ vs H Q E, sp vs H Q E → vs.length = ps.length)
    (hbody : ∀ (A : Around) (outer : List Env) (s : Shared) (H : Hp) (vs : List V) (Q : VK) (E : XK), Room k (A.deeper (envOfC qual scope s.heap.objs.size f cdv)) → sp vs H Q E →
      ∃ t, PSs (cxOf CX P w K mg base N qual scope f cdv A outer s H E) body t ∧ t { nx := fun _ H' => Q .non H', rt := Q } (start N vs) H) :
    FnOk P w K mg base CX (k + 1) f (PySem.W.fnOf name qual params body scope dV kV doc pm an cdv ct) ps sp := by
  refine ⟨len, fun A outer s H args us vs Q E hr e0 hb r hsp => ?_⟩
  have hl := len _ _ _ _ hsp
  have KX : K.In s.heap := e0.mod.kin.keeps fun b o e => (e0.bs b o e).1
  have lim : s.heap.NoLimit := e0.mod.nolimit.keeps fun b o e => (e0.bs b o e).1
  have hkind : ∀ y ∈ ps.zip us, scope.names.lookup y.1 = some .local ∨ (scope.names.lookup y.1 = some .cell ∧ ((cellsFrom (s.heap.objs.size + 1) scope.names []).lookup y.1).isSome = true) := fun ⟨n, v⟩ hy => by
    rcases S.par n (List.of_mem_zip hy).1 with q | q
    · exact .inl q
    · exact .inr ⟨q, PySem.W.cellsFrom_some _ _ _ (.inl q)⟩
  refine codeAny_call_function hr.depth (KX _ _ lk) rfl S.co S.gen rfl (PySem.W.codeRec_of KX hcd) (hb _ _ _ _ ?_)
  refine wpAny_newFunctionEnv_cells S.kind hkind fun env he s1 x => ?_
  subst he
  refine ⟨lim.keeps x.toInCall.keep, codeAny_func ?_⟩
  obtain ⟨t, ht, hq⟩ := hbody A outer s H vs Q E (hr.deeper _) hsp
  have I : Inv (cxOf CX P w K mg base N qual scope f cdv A outer s H E) [] (start N vs) H s1 := inv_start S hr.hd e0 hl r x
  refine wpAny_mono (ht [] s1 (start N vs) H _ I hq) (fun fl s' hs => ?_) fun e s' hs => hs
  have fin : ∀ {σ' : St} {H' : Hp} {v : V} {u : Value}, Inv (cxOf CX P w K mg base N qual scope f cdv A outer s H E) [] σ' H' s' → RelV v u → Q v H' → CE outer P w H s Q u s' :=
    fun {σ' H' v u} J rv q => ⟨v, H', J.os, J.bare, J.base, J.hok, rv, q⟩
  cases fl with
  | ret u =>
    obtain ⟨v, σ', H', J, rv, q⟩ := hs
    exact fin J rv q
  | next =>
    obtain ⟨σ', H', J, q⟩ := hs
    exact fin (v := V.non) (u := Value.none) J rfl q
  | brk =>
    obtain ⟨_, _, _, q⟩ := hs
    exact False.elim q
  | cont =>
    obtain ⟨_, _, _, q⟩ := hs
    exact False.elim q
end L2

namespace L2
open PySem PySem.Spec PyProof.Rows
section
variable {X : Cx} {x : Str} {p pos : Pos} {e : Expr} {es : List Expr} {t : TA} {id T : String} {r : List V → Hp → VK → Prop}

def tCB (r : List V → Hp → VK → Prop) (t : TA) : TE := fun σ H Q => t σ H fun vs H1 => r vs H1 Q
/-- f(e, ..), f a built-in function -/
theorem pe_callB (hc : CallR X (.builtin id) r) (hg : Gl X x) (hm : X.mg x = none) (hv : bootBuiltins x = some (.builtin id)) (ha : PA X (e :: es) t) (hn : x ≠ "__name__" := by decide) (hdb : (x == ("__debug__" : Str)) = false := by decide)
    (he : starEach (e :: es) X.env = (false, eval e X.env) :: starEach es X.env := by rfl) (hpl : (backTo pos (starEach es X.env)).any (·.1) = false := by rfl) : PE X (.Call (.Name x p) (e :: es) [] pos) (tCB r t) := by
  intro pins s σ H Q I h
  refine wpAny_Call_Name_kw (ld_blt I hg hm hv ?_ hn hdb)
  exact PyProof.Rows.callWith_builtin1 (thn (ha pos pins s σ H _ I h) fun us s1 ⟨vs, H1, I1, r1, q1⟩ => hc pins s1 σ H1 vs us Q I1 r1 q1) he hpl
/-- T(e, ..), T a built-in type -/
theorem pe_callTy (hc : CallR X (.type T) r) (hg : Gl X x) (hm : X.mg x = none) (hv : bootBuiltins x = some (.type T)) (ha : PA X (e :: es) t) (hn : x ≠ "__name__" := by decide) (hdb : (x == ("__debug__" : Str)) = false := by decide)
    (he : starEach (e :: es) X.env = (false, eval e X.env) :: starEach es X.env := by rfl) (hpl : (backTo pos (starEach es X.env)).any (·.1) = false := by rfl) : PE X (.Call (.Name x p) (e :: es) [] pos) (tCB r t) := by
  intro pins s σ H Q I h
  refine wpAny_Call_Name_kw (ld_blt I hg hm hv ?_ hn hdb)
  exact PyProof.Rows.callWith_type1 (thn (ha pos pins s σ H _ I h) fun us s1 ⟨vs, H1, I1, r1, q1⟩ => hc pins s1 σ H1 vs us Q I1 r1 q1) he hpl
/-- T() -/
theorem pe_callTy0 (hc : CallR X (.type T) r) (hg : Gl X x) (hm : X.mg x = none) (hv : bootBuiltins x = some (.type T)) (hn : x ≠ "__name__" := by decide) (hdb : (x == ("__debug__" : Str)) = false := by decide) :
    PE X (.Call (.Name x p) [] [] pos) (tCB r tNil) := by
  intro pins s σ H Q I h
  refine wpAny_Call_Name_kw (ld_blt I hg hm hv ?_ hn hdb)
  exact PyProof.Rows.callWith_type0 (hc pins s σ H [] [] Q I .nil h)
end
end L2

namespace HT
open PySem PyProof.Rows

/-- t < u of tuples of ints -/
def lexLt : List Int → List Int → Bool
  | [], [] => false
  | [], _ :: _ => true
  | _ :: _, [] => false
  | x :: xs, y :: ys => if x = y then lexLt xs ys else decide (x < y)
theorem lexLt_cons (x y : Int) (xs ys : List Int) : lexLt (x :: xs) (y :: ys) = if x = y then lexLt xs ys else decide (x < y) := rfl
theorem lexLt_nil_nil : lexLt [] [] = false := rfl
theorem lexLt_nil_cons (y : Int) (ys : List Int) : lexLt [] (y :: ys) = true := rfl
theorem lexLt_cons_nil (x : Int) (xs : List Int) : lexLt (x :: xs) [] = false := rfl

theorem eqAt_int (A : Around) (s : Shared) (a : Int) (t : Tok) (c : Int) (u : Tok) : ∃ e, SeqAt.EqAt A s (.int a t) (.int c u) e ∧ (e = true ↔ a = c) :=
  ⟨(a == c), SeqAt.EqAt.int_int a t c u, by simp⟩
theorem rcLt_int (A : Around) (s : Shared) (a : Int) (t : Tok) (c : Int) (u : Tok) (prog : Program) (w : World) (E : Value → Shared → Prop) (Q : Value → Shared → Prop) (h : Q (.bool (decide (a < c))) s) :
    wpAny (model prog w) A (richCompare .Lt (.int a t) (.int c u)) Q E s :=
  (PyProof.Rows.lt_int h : wpAny (model prog w) A (compareOp .Lt (.int a t) (.int c u)) Q E s)

section
open PySem.SeqAt
open PySem.AutoSeq1 (wpAny_loadPart')
open PySem.MeetsSeq PySem.MeetsSeq2 PySem.MeetsSeq3

theorem tuple_lt_ints (l b : Addr) (items items2 : Array Value) (n n2 : Nat) (dd dd2 : Option Addr) (sl sl2 : Array (Option Value)) (ns ms : List Int) (hi : IntsAre items.toList ns) (hj : IntsAre items2.toList ms) :
    Meets (Builtin.«tuple.__lt__» ⟨[.ref l, .ref b], []⟩)
      (fun _ R s => s.heap.get? l = some { cls := .type "tuple", dict := dd, data := .seq items n, slots := sl } ∧ s.heap.get? b = some { cls := .type "tuple", dict := dd2, data := .seq items2 n2, slots := sl2 } ∧
        R (.ok (.ret (.bool (lexLt ns ms)))) s) :=
  .of_wp fun prog w A R s h => by
    obtain ⟨hp, g, d, tk, os⟩ := s; obtain ⟨hl, hb, h⟩ := h
    have f2 := AutoSeq1.sub_tuple_tuple
    have z1 : items.size = ns.length := by rw [← hi.length]; simp
    have z2 : items2.size = ms.length := by rw [← hj.length]; simp
    wp_walk using wpAny_loadPart' hl, wpAny_loadPart' hb, wpAny_forIn_list _ (fun rest b s' => b.1 = none ∧ s' = ⟨hp, g, d, tk, os⟩ ∧ ∃ (vs ws : List Value) (ns' ms' : List Int), rest = vs.zip ws ∧
      IntsAre vs ns' ∧ IntsAre ws ms' ∧ ns'.length + items2.size = ms'.length + items.size ∧ R (.ok (.ret (.bool (lexLt ns' ms')))) ⟨hp, g, d, tk, os⟩) _
    case turn =>
      rintro ⟨y, x⟩ rest b s' ⟨hb', rfl, vs, ws, ns', ms', hz, hvi, hwi, hlen, hR⟩
      cases hvi with
      | nil => rw [List.zip_nil_left] at hz; cases hz
      | cons a t hvi' =>
        cases hwi with
        | nil => rw [List.zip_nil_right] at hz; cases hz
        | cons c u hwi' =>
          rw [List.zip_cons_cons] at hz
          injection hz with hyx hrest
          injection hyx with hy hx
          subst hy hx
          rw [lexLt_cons] at hR
          simp only [List.length_cons] at hlen
          obtain ⟨e, he, hiff⟩ := eqAt_int A.in1 ⟨hp, g, d, tk, os⟩ a t c u
          refine wpAny_bind (he prog w _ _ ?_)
          cases e with
          | true =>
            rw [if_pos (hiff.mp rfl)] at hR
            wp_walk
            exact ⟨rfl, rfl, _, _, _, _, hrest, hvi', hwi', by omega, hR⟩
          | false =>
            rw [if_neg (fun q => absurd (hiff.mpr q) Bool.false_ne_true)] at hR
            have hri := rcLt_int A.in1 ⟨hp, g, d, tk, os⟩ a t c u prog w
            wp_walk using hri
            exact ⟨_, rfl, by simpa using hR⟩
    case fin =>
      rintro ⟨b1, b2⟩ s' ⟨hb', rfl, vs, ws, ns', ms', hz, hvi, hwi, hlen, hR⟩
      simp only at hb'
      subst hb'
      have hv : lexLt ns' ms' = decide (items.size < items2.size) := by
        cases hvi with
        | nil =>
          cases hwi with
          | nil =>
            simp only [List.length_nil] at hlen
            rw [lexLt_nil_nil]
            exact (decide_eq_false (by omega)).symm
          | cons c u hw =>
            simp only [List.length_nil, List.length_cons] at hlen
            rw [lexLt_nil_cons]
            exact (decide_eq_true (by omega)).symm
        | cons a t hv =>
          cases hwi with
          | nil =>
            simp only [List.length_nil, List.length_cons] at hlen
            rw [lexLt_cons_nil]
            exact (decide_eq_false (by omega)).symm
          | cons c u hw =>
            rw [List.zip_cons_cons] at hz
            cases hz
      rw [hv] at hR
      wp_walk
      exact ⟨_, rfl, by simpa [Builtin.Tuple.tupleCompareSizes] using hR⟩
    case h =>
      exact ⟨rfl, rfl, items.toList, items2.toList, ns, ms, rfl, hi, hj, by omega, h⟩
end

section
variable {prog : Program} {w : World} {A : Around} {E : Value → Shared → Prop} {s : Shared}

theorem lt_tupInts {l b : Addr} {items items2 : Array Value} {ns ms : List Int} {Q : Value → Shared → Prop} (hl : IsTup s.heap l items) (hb : IsTup s.heap b items2) (hi : IntsAre items.toList ns) (hj : IntsAre items2.toList ms)
    (hu : A.units < cLine) (h : Q (.bool (lexLt ns ms)) s) : wpAny (model prog w) A (compareOp .Lt (.ref l) (.ref b)) Q E s := by
  obtain ⟨⟨cls, dd, data, sl⟩, ho, hc, n, hd⟩ := id hl
  obtain ⟨⟨cls2, dd2, data2, sl2⟩, ho2, hc2, n2, hd2⟩ := id hb
  simp only at hc hd hc2 hd2
  subst hc hd hc2 hd2
  exact richCompare_meets_room (op := .Lt) ⟨_, ho, rfl⟩ ⟨_, ho2, rfl⟩ PySem.F.slot_tuple_lt PySem.F.entry_tuple_lt (PySem.F.args_tuple_lt_2 _ _) (tuple_lt_ints l b items items2 n n2 dd dd2 sl sl2 ns ms hi hj)
    ⟨ho, ho2, show Value.bool (lexLt ns ms) ≠ Value.notImplemented ∧ Q (.bool (lexLt ns ms)) s from ⟨(fun x => nomatch x), h⟩⟩ hu

/-- t + u, t not empty -/
theorem cat_tup {t b : Addr} {vs ws : List Value} {Q : Value → Shared → Prop} (ht : IsTup s.heap t vs.toArray) (hb : IsTup s.heap b ws.toArray) (hv : vs ≠ [])
    (h1 : ws = [] → Q (.ref t) s) (h2 : ws ≠ [] → Q (.ref s.heap.objs.size) { s with heap := s.heap.push { cls := .type "tuple", data := .seq (vs ++ ws).toArray } })
    (hsz : vs.length + ws.length ≤ sizeLine) : wpAny (model prog w) A (binaryOp .Add (.ref t) (.ref b)) Q E s := by
  obtain ⟨⟨cls, dd, data, sl⟩, ho, hc, n, hd⟩ := id ht
  obtain ⟨⟨cls2, dd2, data2, sl2⟩, ho2, hc2, n2, hd2⟩ := id hb
  simp only at hc hd hc2 hd2
  subst hc hd hc2 hd2
  have e : vs.toArray ++ ws.toArray = (vs ++ ws).toArray := by simp
  by_cases hw : ws = []
  · exact concat_meets ⟨_, ho, rfl⟩ ⟨_, ho2, rfl⟩ noFill_tuple_add seq_tuple_add PySem.F.slot_tuple_add PySem.F.entry_tuple_add (PySem.F.args_tuple_add_2 _ _)
      (tuple_addW1 t b vs.toArray ws.toArray n n2 dd dd2 sl sl2 (by simpa using hv) (by simp [hw])) ⟨ho, ho2, h1 hw⟩
  · refine concat_meets ⟨_, ho, rfl⟩ ⟨_, ho2, rfl⟩ noFill_tuple_add seq_tuple_add PySem.F.slot_tuple_add PySem.F.entry_tuple_add (PySem.F.args_tuple_add_2 _ _)
      (tuple_addW2 t b vs.toArray ws.toArray n n2 dd dd2 sl sl2 (by simpa using hv) (by simpa using hw) (by rw [List.size_toArray, List.size_toArray]; exact hsz)) ⟨ho, ho2, ?_⟩
    rw [e]
    exact h2 hw

/-! ### t[a:b], not the whole -/
/-- a slice's bound as a place among n (d where it is left out) -/
def sIx (n d : Nat) : Option Int → Nat
  | none => d
  | some v => if v < 0 then (v + (n : Int)).toNat else min v.toNat n
theorem sIx_none (n d : Nat) : sIx n d none = d := rfl
theorem sIx_nat (n d k : Nat) : sIx n d (some (k : Int)) = min k n := by
  show (if (k : Int) < 0 then ((k : Int) + (n : Int)).toNat else min (k : Int).toNat n) = min k n
  rw [if_neg (by omega), Int.toNat_natCast]
theorem sIx_le (n d : Nat) (hd : d ≤ n) (o : Option Int) : sIx n d o ≤ n := by
  cases o with
  | none => exact hd
  | some v =>
    show (if v < 0 then (v + (n : Int)).toNat else min v.toNat n) ≤ n
    by_cases hv : v < 0
    · rw [if_pos hv]; omega
    · rw [if_neg hv]; exact Nat.min_le_right _ _
theorem clip_eq (v : Int) (n d : Nat) : (if v < 0 then max (v + (n : Int)) 0 else min v (n : Int)) = ((sIx n d (some v) : Nat) : Int) := by
  show (if v < 0 then max (v + (n : Int)) 0 else min v (n : Int)) = (((if v < 0 then (v + (n : Int)).toNat else min v.toNat n) : Nat) : Int)
  by_cases hv : v < 0
  · simp only [if_pos hv]; omega
  · simp only [if_neg hv]; omega
theorem adjust_gen (lo hi : Option Int) (n : Nat) : Builtin.Slice.sliceAdjust lo hi 1 (n : Int) = (((sIx n 0 lo : Nat) : Int), ((sIx n n hi : Nat) : Int)) := by
  have h1 : ¬ ((1 : Int) < 0) := by omega
  unfold Builtin.Slice.sliceAdjust
  simp only [h1, if_false]
  refine Prod.ext ?_ ?_
  · cases lo with
    | none => rfl
    | some v => exact clip_eq v n 0
  · cases hi with
    | none => rfl
    | some v => exact clip_eq v n n
theorem places_gen (i j : Nat) : Builtin.Slice.slicePlaces (i : Int) (j : Int) 1 = j - i := by
  unfold Builtin.Slice.slicePlaces
  have h1 : (1 : Int) > 0 := by omega
  simp only [h1, if_true, Int.ediv_one]
  split <;> omega
theorem slicePart_ {v : Value} {o : Option Int} {Q : Option Int → Shared → Prop} (p : IsPart v o) (h : Q o s) : wpAny (model prog w) A (Builtin.Slice.slicePartIndex v) Q E s := by
  cases p with
  | none => exact slicePart_none h
  | int i t => exact slicePart_int h
theorem sliceApplied_gen {sl : Addr} {vl vu : Value} {lo hi : Option Int} {n : Nat} {Q : Int × Int × Nat → Shared → Prop} (hs : s.heap.IsSliceOf sl vl vu .none) (pl : IsPart vl lo) (pu : IsPart vu hi)
    (h : Q (((sIx n 0 lo : Nat) : Int), 1, sIx n n hi - sIx n 0 lo) s) : wpAny (model prog w) A (Builtin.Slice.sliceApplied (.ref sl) (pure (n : Int))) Q E s := by
  obtain ⟨os, hos, hcs, hds⟩ := id hs
  unfold Builtin.Slice.sliceApplied Builtin.Slice.sliceFields
  refine wpAny_bind (wpAny_bind (wpAny_field hos hds (x := vl) rfl (wpAny_bind (wpAny_field hos hds (x := vu) rfl (wpAny_bind (wpAny_field hos hds (x := .none) rfl (wpAny_pure ?_)))))))
  refine wpAny_bind (slicePart_none ?_)
  show wpAny _ _ (if ((1 : Int) == 0) = true then _ else _) _ _ s
  rw [if_neg (by decide)]
  refine wpAny_bind (slicePart_ pl (wpAny_bind (slicePart_ pu (wpAny_bind (wpAny_pure ?_)))))
  show wpAny _ _ (match Builtin.Slice.sliceAdjust lo hi 1 (n : Int) with | (lo, hi) => pure (lo, (1 : Int), Builtin.Slice.slicePlaces lo hi 1)) _ _ s
  rw [adjust_gen lo hi n]
  show wpAny _ _ (pure (((sIx n 0 lo : Nat) : Int), (1 : Int), Builtin.Slice.slicePlaces ((sIx n 0 lo : Nat) : Int) ((sIx n n hi : Nat) : Int) 1)) _ _ s
  rw [places_gen]
  exact wpAny_pure h
theorem pick_gen (xs : Array Value) (i k : Nat) : ((List.range k).filterMap fun (m : Nat) => xs[((i : Int) + (m : Int) * 1).toNat]?).toArray = ((xs.toList.drop i).take k).toArray := by
  have e : (fun (m : Nat) => xs[((i : Int) + (m : Int) * 1).toNat]?) = fun m => xs[i + m]? := by
    funext m
    have : ((i : Int) + (m : Int) * 1).toNat = i + m := by omega
    rw [this]
  rw [e]
  have := pick_run xs i k
  rw [List.filterMap_map] at this
  have e2 : ((fun x => xs[x]?) ∘ fun x => i + x) = fun m => xs[i + m]? := rfl
  rw [e2] at this
  rw [this]

theorem getItem_tuple_cut {t sl : Addr} {items : Array Value} {vl vu : Value} {lo hi : Option Int} {Q : Value → Shared → Prop} (ht : IsTup s.heap t items) (hs : s.heap.IsSliceOf sl vl vu .none) (pl : IsPart vl lo) (pu : IsPart vu hi)
    (hw : ¬ (sIx items.size 0 lo = 0 ∧ sIx items.size items.size hi = items.size))
    (h : Q (.ref s.heap.objs.size) { s with heap := s.heap.push { cls := .type "tuple", data := .seq ((items.toList.drop (sIx items.size 0 lo)).take (sIx items.size items.size hi - sIx items.size 0 lo)).toArray } })
    (hsz : items.size ≤ sizeLine) : wpAny (model prog w) A (getItem (.ref t) (.ref sl)) Q E s := by
  have htake : sizeOk (.seq ((items.toList.drop (sIx items.size 0 lo)).take (sIx items.size items.size hi - sIx items.size 0 lo)).toArray) := by
    show ((items.toList.drop (sIx items.size 0 lo)).take (sIx items.size items.size hi - sIx items.size 0 lo)).toArray.size ≤ sizeLine
    rw [List.size_toArray, List.length_take, List.length_drop, Array.length_toList]
    omega
  have hj : sIx items.size items.size hi ≤ items.size := sIx_le _ _ (Nat.le_refl _) hi
  obtain ⟨os, hos, hcs, hds⟩ := id hs
  have hTs : s.TypeIs (.ref sl) "slice" := ⟨os, hos, hcs⟩
  unfold getItem
  try with_reducible refine wpAny_holding ?_
  first | refine wpAny_bind (wpAny_pure ?_) | skip
  refine wpAny_bind (wpAny_sequenceKey ht.typeIs (by decide) ?_)
  refine wpAny_bind (wpAny_callSpecial?_slot (name := Str.ofString "__getitem__") ht.typeIs PyProof.Rows.slot_tuple_getitem
    (wpAny_call_entry PyProof.Rows.slot_tuple_getitem ht.typeIs entry_tuple_getitem ?_ (args_tuple_getitem _ _)))
  show wpAny _ _ (Builtin.Tuple.tupleItemsOf (.ref t) >>= _) _ _ s
  refine wpAny_bind (tupleItemsOf_ ht ?_)
  refine wpAny_bind (wpAny_typeOf hTs ?_)
  rw [if_pos (by decide)]
  refine wpAny_bind (sliceApplied_gen hs pl pu ?_)
  have hno : ¬ ((((sIx items.size 0 lo : Nat) : Int) == 0 && (1 : Int) == 1 && (sIx items.size items.size hi - sIx items.size 0 lo) == items.size) = true) := by
    intro q
    rw [Bool.and_eq_true, Bool.and_eq_true] at q
    have q1 : ((sIx items.size 0 lo : Nat) : Int) = 0 := eq_of_beq q.1.1
    have q2 : sIx items.size items.size hi - sIx items.size 0 lo = items.size := eq_of_beq q.2
    exact hw ⟨by omega, by omega⟩
  show wpAny _ _ (if (((sIx items.size 0 lo : Nat) : Int) == 0 && (1 : Int) == 1 && (sIx items.size items.size hi - sIx items.size 0 lo) == items.size) = true then _ else _) _ _ s
  rw [if_neg hno, pick_gen]
  first
    | exact wpAny_bind (m := Builtin.Tuple.tupleExact _) (wpAny_newObj_type (wpAny_pure ⟨_, rfl, wpAny_pure h⟩) htake)
    | exact wpAny_bind (m := Builtin.Tuple.tupleExact _) (wpAny_newObj_type (wpAny_bind (wpAny_pure (wpAny_pure ⟨_, rfl, wpAny_pure h⟩))) htake)
    | exact wpAny_bind (wpAny_bind (m := Builtin.Tuple.tupleExact _) (wpAny_newObj_type (wpAny_pure (wpAny_pure ⟨_, rfl, wpAny_pure h⟩)) htake))
    | exact wpAny_bind (wpAny_bind (m := Builtin.Tuple.tupleExact _) (wpAny_newObj_type (wpAny_pure ⟨_, rfl, wpAny_pure h⟩) htake))
end
end HT

namespace L2
open PySem PySem.Spec PyProof.Rows

/-! ### the parts of a slice -/
abbrev TO := St → Hp → (Option Int → Hp → Prop) → Prop
/-- a slice's part (left out, or an int) -/
def PO (X : Cx) (e : Option Expr) (t : TO) : Prop :=
  ∀ (pins : List (Addr × Obj)) (s : Shared) (σ : St) (H : Hp) (Q : Option Int → Hp → Prop), Inv X pins σ H s → t σ H Q →
    wpAny (model X.prog X.w) X.A (evalPart e X.env) (fun u s' => ∃ o H', Inv X pins σ H' s' ∧ IsPart u o ∧ Q o H') X.xe s
def tNoPart : TO := fun _ H Q => Q none H
def tPart (t : TE) : TO := fun σ H Q => t σ H fun x H1 => ∃ i, x = .int i ∧ Q (some i) H1

theorem intsAre_of {ns : List Int} : ∀ {us : List Value}, Vals (ns.map V.int) us → IntsAre us ns := by
  induction ns with
  | nil => intro us r; rw [List.map_nil] at r; cases r; exact .nil
  | cons n ns ih =>
    intro us r
    rw [List.map_cons] at r
    cases r with
    | cons r1 r2 =>
      obtain ⟨t, e⟩ := r1
      subst e
      exact .cons n t (ih r2)

section
variable {X : Cx} {e : Expr} {te : TE} {lo hi : Option Expr} {tl th : TO} {pos p2 : Pos}

theorem po_none : PO X none tNoPart := by
  intro pins s σ H Q I h
  rw [evalPart_none]
  exact wpAny_pure ⟨none, H, I, .none, h⟩
theorem po_some (h : PE X e te) : PO X (some e) (tPart te) := by
  intro pins s σ H Q I hw
  rw [evalPart_some]
  refine thn (h pins s σ H _ I hw) fun u s1 ⟨x, H1, I1, r1, q1⟩ => ?_
  obtain ⟨i, rfl, q⟩ := q1
  obtain ⟨t, rfl⟩ := r1
  exact ⟨some i, H1, I1, .int i t, q⟩

/-- what a slice of a value is, by values: the slice object stands at sl -/
def SlR (X : Cx) (r : V → Option Int → Option Int → Hp → VK → Prop) : Prop :=
  ∀ (pins : List (Addr × Obj)) (s : Shared) (σ : St) (H : Hp) (x : V) (v vl vu : Value) (lo hi : Option Int) (sl : Addr) (Q : VK), Inv X pins σ H s → RelV x v → s.heap.IsSliceOf sl vl vu .none → IsPart vl lo → IsPart vu hi → r x lo hi H Q →
    ∃ T id, typeLookup (.type T) "__getitem__" = pure (some (.builtin id)) ∧ s.TypeIs v T ∧ wpAny (model X.prog X.w) X.A (getItem v (.ref sl)) (EP X pins σ Q) X.xe s
theorem SlR.or {r r' : V → Option Int → Option Int → Hp → VK → Prop} (h : SlR X r) (h' : SlR X r') : SlR X (fun x lo hi H Q => r x lo hi H Q ∨ r' x lo hi H Q) := by
  intro pins s σ H x v vl vu lo hi sl Q I rx hs pl pu q
  rcases q with q | q
  · exact h pins s σ H x v vl vu lo hi sl Q I rx hs pl pu q
  · exact h' pins s σ H x v vl vu lo hi sl Q I rx hs pl pu q
def tSl (r : V → Option Int → Option Int → Hp → VK → Prop) (te : TE) (tl th : TO) : TE := fun σ H Q => te σ H fun x H1 => tl σ H1 fun l H2 => th σ H2 fun u H3 => r x l u H3 Q
/-- a[lo:hi], any a -/
theorem pe_slice {r : V → Option Int → Option Int → Hp → VK → Prop} (hr : SlR X r) (he : PE X e te) (hl : PO X lo tl) (hu : PO X hi th) : PE X (.Subscript e (.Slice lo hi none p2) pos) (tSl r te tl th) := by
  intro pins s σ H Q I h
  refine Subscript_ (thn (he pins s σ H _ I h) fun v s1 ⟨x, H1, I1, r1, q1⟩ => ?_)
  refine wpAny_Slice (thn (hl pins s1 σ H1 _ I1 q1) fun vl s2 ⟨l, H2, I2, pl, q2⟩ => thn (hu pins s2 σ H2 _ I2 q2) fun vu s3 ⟨u, H3, I3, pu, q3⟩ => ?_)
  rw [evalPart_none]
  refine wpAny_pure ?_
  have I4 : Inv X pins σ H3 { s3 with heap := s3.heap.push { cls := .type "slice", data := .fields #[vl, vu, .none] } } := I3.kept (t' := s3.toks) fun b ob q => Heap.get?_push_of_some _ q
  obtain ⟨T, id, hT, ht, hg⟩ := hr pins { s3 with heap := s3.heap.push { cls := .type "slice", data := .fields #[vl, vu, .none] } } σ H3 x v vl vu l u s3.heap.objs.size Q I4 r1 (Heap.IsSliceOf.new ..) pl pu q3
  show wpAny (model X.prog X.w) X.A (subscriptTail e (.Slice lo hi none p2) v (.ref s3.heap.objs.size)) (EP X pins σ Q) X.xe { s3 with heap := s3.heap.push { cls := .type "slice", data := .fields #[vl, vu, .none] } }
  exact tail_any (ops := [.ref s3.heap.objs.size, v]) ht hT hg (by with_unfolding_all rfl)

/-- the items of xs[lo:hi] -/
def cutV (xs : List V) (lo hi : Option Int) : List V := (xs.drop (HT.sIx xs.length 0 lo)).take (HT.sIx xs.length xs.length hi - HT.sIx xs.length 0 lo)
theorem cutV_length (xs : List V) (lo hi : Option Int) : (cutV xs lo hi).length ≤ xs.length := by
  unfold cutV
  rw [List.length_take, List.length_drop]
  omega
/-- t[lo:hi], not the whole of it (the whole would be t itself) -/
def rSlT (K : PySem.W.Frag) : V → Option Int → Option Int → Hp → VK → Prop := fun x lo hi H Q => ∃ a xs, x = .ref a ∧ SqT K H a xs ∧
  ¬ (HT.sIx xs.length 0 lo = 0 ∧ HT.sIx xs.length xs.length hi = xs.length) ∧ ∀ p, H p = none → Q (.ref p) (upd H p (.tup (cutV xs lo hi)))
theorem sl_tup : SlR X (rSlT X.K) := by
  intro pins s σ H x v vl vu lo hi sl Q I rx hs pl pu h
  obtain ⟨a, xs, rfl, hx, hw, q⟩ := h
  cases rx
  obtain ⟨its, r, ht, hz⟩ := I.tuple hx
  have hlen : its.toArray.size = xs.length := by rw [List.size_toArray]; exact r.length.symm
  refine ⟨"tuple", _, PyProof.Rows.slot_tuple_getitem.lookup, ht.typeIs, ?_⟩
  refine HT.getItem_tuple_cut ht hs pl pu (by rw [hlen]; exact hw) ?_ (by rw [hlen]; exact hz)
  rw [hlen]
  refine ⟨.ref s.heap.objs.size, _, I.laid (t' := s.toks) (o := .tup (cutV xs lo hi)) (fun b ob q => Heap.get?_push_of_some _ q) (Nat.le_refl _) ?_, rfl, q _ (I.hok.fresh (Nat.le_refl _))⟩
  exact ⟨Nat.le_trans (cutV_length xs lo hi) hz, _, (r.drop (HT.sIx xs.length 0 lo)).take (HT.sIx xs.length xs.length hi - HT.sIx xs.length 0 lo), IsTup.new _ _⟩

/-! ### t < u, t + u -/
def rLtT (K : PySem.W.Frag) : R2 := fun x y H Q => ∃ a b ns ms, x = .ref a ∧ y = .ref b ∧ SqT K H a (ns.map V.int) ∧ SqT K H b (ms.map V.int) ∧ Q (.bl (HT.lexLt ns ms)) H
theorem op_ltT (hu : X.A.units < cLine) : OpR X (compareOp .Lt) (rLtT X.K) := by
  intro pins s σ H x y v u Q I rx ry h
  obtain ⟨a, b, ns, ms, rfl, rfl, ha, hb, q⟩ := h
  cases rx
  cases ry
  obtain ⟨its, r1, p1, _⟩ := I.tuple ha
  obtain ⟨its2, r2, p2, _⟩ := I.tuple hb
  have i1 : IntsAre its.toArray.toList ns := intsAre_of r1
  have i2 : IntsAre its2.toArray.toList ms := intsAre_of r2
  exact HT.lt_tupInts p1 p2 i1 i2 hu ⟨.bl (HT.lexLt ns ms), H, I, rfl, q⟩
/-- t + u, t not empty: u empty gives t itself -/
def rCatT (K : PySem.W.Frag) : R2 := fun x y H Q => ∃ a b xs ys, x = .ref a ∧ y = .ref b ∧ SqT K H a xs ∧ SqT K H b ys ∧ xs ≠ [] ∧ xs.length + ys.length ≤ sizeLine ∧
  (ys = [] → Q (.ref a) H) ∧ (ys ≠ [] → ∀ p, H p = none → Q (.ref p) (upd H p (.tup (xs ++ ys))))
theorem Vals.nil_iff {xs : List V} {us : List Value} (r : Vals xs us) : us = [] ↔ xs = [] := by
  cases r with
  | nil => simp
  | cons _ _ => simp
theorem op_catT : OpR X (binaryOp .Add) (rCatT X.K) := by
  intro pins s σ H x y v u Q I rx ry h
  obtain ⟨a, b, xs, ys, rfl, rfl, ha, hb, hx, hz, q1, q2⟩ := h
  cases rx
  cases ry
  obtain ⟨its, r1, p1, _⟩ := I.tuple ha
  obtain ⟨its2, r2, p2, _⟩ := I.tuple hb
  refine HT.cat_tup p1 p2 (fun z => hx (r1.nil_iff.mp z)) (fun z => ⟨.ref a, H, I, rfl, q1 (r2.nil_iff.mp z)⟩) (fun z => ?_) (by rw [← r1.length, ← r2.length]; exact hz)
  refine ⟨.ref s.heap.objs.size, _, I.laid (t' := s.toks) (o := .tup (xs ++ ys)) (fun b ob q => Heap.get?_push_of_some _ q) (Nat.le_refl _) ?_, rfl, q2 (fun w => z (r2.nil_iff.mpr w)) _ (I.hok.fresh (Nat.le_refl _))⟩
  exact ⟨by rw [List.length_append]; exact hz, _, r1.append r2, IsTup.new _ _⟩
/-- tuple(t) -/
theorem call_tupleT : CallR X (.type "tuple") (fun xs H Q => ∃ a ys, xs = [.ref a] ∧ SqT X.K H a ys ∧ Q (.ref a) H) := by
  intro pins s σ H xs us Q I r h
  obtain ⟨a, ys, rfl, ha, q⟩ := h
  obtain ⟨u, rfl, ru⟩ := vals1 r
  cases ru
  obtain ⟨its, _, p1, _⟩ := I.tuple ha
  exact call_tuple_same (items := its.toArray) p1 ⟨.ref a, H, I, rfl, q⟩
end
end L2

namespace L2
open PySem PySem.Spec PyProof.Rows

/-! ### places -/
/-- the place that an index of any sign means -/
def ixN (n : Nat) (i : Int) : Option Nat := if 0 ≤ i then (if i < n then some i.toNat else none) else if -(n : Int) ≤ i then some (i + n).toNat else none
def atI {α : Type} (xs : List α) (i : Int) : Option α := (ixN xs.length i).bind fun j => xs[j]?
theorem ixN_seq {n : Nat} {i : Int} {j : Nat} (h : ixN n i = some j) : seqIndex? i n = some j ∧ j < n ∧ -(n : Int) ≤ i ∧ i < n := by
  unfold ixN at h
  by_cases h0 : 0 ≤ i
  · rw [if_pos h0] at h
    by_cases h1 : i < n
    · rw [if_pos h1] at h
      have e : i.toNat = j := Option.some.inj h
      exact ⟨by rw [seqIndex_of h0 h1, e], by omega, by omega, h1⟩
    · rw [if_neg h1] at h; cases h
  · rw [if_neg h0] at h
    by_cases h1 : -(n : Int) ≤ i
    · rw [if_pos h1] at h
      have e : (i + n).toNat = j := Option.some.inj h
      exact ⟨by rw [seqIndex_neg (by omega) h1, e], by omega, h1, by omega⟩
    · rw [if_neg h1] at h; cases h
theorem atI_get {α : Type} {xs : List α} {i : Int} {v : α} (h : atI xs i = some v) : ∃ j, seqIndex? i xs.length = some j ∧ xs[j]? = some v ∧ j < xs.length ∧ -(xs.length : Int) ≤ i ∧ i < xs.length := by
  unfold atI at h
  cases e : ixN xs.length i with
  | none => rw [e] at h; cases h
  | some j =>
    rw [e] at h
    obtain ⟨h1, h2, h3, h4⟩ := ixN_seq e
    exact ⟨j, h1, h, h2, h3, h4⟩
theorem atI_nat {α : Type} {xs : List α} {j : Nat} {v : α} (h : xs[j]? = some v) : atI xs (j : Int) = some v := by
  have hj : j < xs.length := (List.getElem?_eq_some_iff.mp h).1
  have e : ixN xs.length (j : Int) = some j := by
    unfold ixN
    rw [if_pos (by omega), if_pos (by omega)]; simp
  unfold atI; rw [e]; exact h
theorem atI_last {α : Type} (xs : List α) (v : α) : atI (xs ++ [v]) (-1) = some v := by
  have hl : (xs ++ [v]).length = xs.length + 1 := by simp
  have e : ixN (xs ++ [v]).length (-1) = some xs.length := by
    unfold ixN
    rw [hl, if_neg (by decide), if_pos (by omega)]
    congr 1
    omega
  unfold atI
  rw [e]
  show (xs ++ [v])[xs.length]? = some v
  simp

/-! ### what may be subscripted -/
/-- what stands as an index of a plain subscript -/
def PlainIx (b : Expr) : Prop := ∀ o i, subscripted b false o i = operate [o, i] (getItem o i)
/-- a subscript by values -/
def IxR (X : Cx) (r : R2) : Prop :=
  ∀ (value slice : Expr) (pins : List (Addr × Obj)) (s : Shared) (σ : St) (H : Hp) (x y : V) (v u : Value) (Q : VK), Inv X pins σ H s → RelV x v → RelV y u → r x y H Q →
    subscripted slice false v u = operate [v, u] (getItem v u) → wpAny (model X.prog X.w) X.A (subscriptTail value slice v u) (EP X pins σ Q) X.xe s
/-- a call of a builtin's method by values: the receiver, the arguments -/
def MtR (X : Cx) (id : String) (r : V → List V → Hp → VK → Prop) : Prop :=
  ∀ (pins : List (Addr × Obj)) (s : Shared) (σ : St) (H : Hp) (x : V) (xs : List V) (v : Value) (us : List Value) (Q : VK), Inv X pins σ H s → RelV x v → Vals xs us → r x xs H Q →
    wpAny (model X.prog X.w) X.A (call (.builtin id) (v :: us)) (EP X pins σ Q) X.xe s
section
variable {X : Cx} {a b : Expr} {ta tb : TE} {pos : Pos}
theorem IxR.or {r r' : R2} (h : IxR X r) (h' : IxR X r') : IxR X (fun x y H Q => r x y H Q ∨ r' x y H Q) := by
  intro value slice pins s σ H x y v u Q I rx ry q hs
  rcases q with q | q
  · exact h value slice pins s σ H x y v u Q I rx ry q hs
  · exact h' value slice pins s σ H x y v u Q I rx ry q hs
theorem MtR.or {id : String} {r r' : V → List V → Hp → VK → Prop} (h : MtR X id r) (h' : MtR X id r') : MtR X id (fun x xs H Q => r x xs H Q ∨ r' x xs H Q) := by
  intro pins s σ H x xs v us Q I rx rs q
  rcases q with q | q
  · exact h pins s σ H x xs v us Q I rx rs q
  · exact h' pins s σ H x xs v us Q I rx rs q
/-- a[b] -/
theorem pe_ix {r : R2} (hr : IxR X r) (ha : PE X a ta) (hb : PE X b tb) (hs : PlainIx b) : PE X (.Subscript a b pos) (tOp r ta tb) := by
  intro pins s σ H Q I h
  exact Subscript_ (binT ha hb I h fun v u s2 x y H2 I2 rx ry q => hr a b pins s2 σ H2 x y v u Q I2 rx ry q (hs _ _))

def rIxL (K : PySem.W.Frag) : R2 := fun x y H Q => ∃ p xs i v, x = .ref p ∧ y = .int i ∧ SqL K H p xs ∧ atI xs i = some v ∧ Q v H
def rIxT (K : PySem.W.Frag) : R2 := fun x y H Q => ∃ p xs i v, x = .ref p ∧ y = .int i ∧ SqT K H p xs ∧ atI xs i = some v ∧ Q v H
def rIxS : R2 := fun x y H Q => ∃ z i c, x = .str z ∧ y = .int i ∧ z.length ≤ sizeLine ∧ atI z.cps.toList i = some c ∧ Q (.str ⟨#[c]⟩) H
theorem ix_list : IxR X (rIxL X.K) := by
  intro value slice pins s σ H x y v u Q I rx ry h hs
  obtain ⟨p, xs, i, z, rfl, rfl, hq, he, q⟩ := h
  cases rx
  obtain ⟨t, rfl⟩ := ry
  obtain ⟨its, r, pl, hz⟩ := I.list hq
  obtain ⟨j, h1, h2, h3, h4, h5⟩ := atI_get he
  obtain ⟨w, ew, rw'⟩ := r.get h2
  have hl := r.length
  have hn := line63
  have fin : EP X pins σ Q w s := ⟨z, H, I, rw', q⟩
  by_cases h0 : 0 ≤ i
  · have hj : i.toNat = j := by
      rw [seqIndex_of h0 h5] at h1
      exact Option.some.inj h1
    exact item_listR pl.isList h0 (by omega) (by rw [hj]; simpa using ew) fin hs
  · have hj : (i + (its.toArray.size : Int)).toNat = j := by
      rw [seqIndex_neg (by omega) h4] at h1
      rw [List.size_toArray, ← hl]
      exact Option.some.inj h1
    exact subscriptTail_builtinR (x := w) pl.isList.typeIs slot_list_getitem.lookup
      (wpAny_getItem_list_neg (Q := fun r s' => r = w ∧ EP X pins σ Q r s') pl.isList (by omega) (by rw [List.size_toArray] <;> omega) (by omega) (by rw [hj]; simpa using ew) ⟨rfl, fin⟩) hs
theorem ix_tup : IxR X (rIxT X.K) := by
  intro value slice pins s σ H x y v u Q I rx ry h hs
  obtain ⟨p, xs, i, z, rfl, rfl, hq, he, q⟩ := h
  cases rx
  obtain ⟨t, rfl⟩ := ry
  obtain ⟨its, r, pl, hz⟩ := I.tuple hq
  obtain ⟨j, h1, h2, h3, h4, h5⟩ := atI_get he
  obtain ⟨w, ew, rw'⟩ := r.get h2
  have hl := r.length
  have hn := line63
  have fin : EP X pins σ Q w s := ⟨z, H, I, rw', q⟩
  exact subscriptTail_builtinR (x := w) pl.typeIs slot_tuple_getitem.lookup
    (getItem_tuple (j := j) (Q := fun r s' => r = w ∧ EP X pins σ Q r s') pl (by omega) (by omega) (by rw [List.size_toArray, ← hl]; exact h1) (by simpa using ew) ⟨rfl, fin⟩) hs
theorem ix_str : IxR X rIxS := by
  intro value slice pins s σ H x y v u Q I rx ry h hs
  obtain ⟨z, i, c, rfl, rfl, hz, he, q⟩ := h
  obtain ⟨t, rfl⟩ := rx
  obtain ⟨t', rfl⟩ := ry
  obtain ⟨j, h1, h2, h3, h4, h5⟩ := atI_get he
  have hl : z.cps.toList.length = z.length := by simp [Str.length]
  rw [hl] at h1 h4 h5
  have hn := line63
  exact tail_any (typeIs_str s z t) slot_str_getitem.lookup (getItem_str (c := c) (by
    have e1 : decide (i < -(2 ^ 63 : Int)) = false := decide_eq_false (by omega)
    have e2 : decide (i ≥ 2 ^ 63) = false := decide_eq_false (by omega)
    rw [e1, e2, Bool.or_false]) (by rw [h1]; simpa using h2) ⟨.str ⟨#[c]⟩, H, I.tok _, ⟨_, rfl⟩, q⟩) hs
/-- list, tuple or str -/
def rIx (K : PySem.W.Frag) : R2 := fun x y H Q => rIxL K x y H Q ∨ rIxT K x y H Q ∨ rIxS x y H Q
theorem ix_seq : IxR X (rIx X.K) := ix_list.or (ix_tup.or ix_str)

/-! ### xs[i] = v, any sign -/
/-- the list's object behind a store -/
theorem mapSeq_set (its : List Value) (n j : Nat) (u : Value) : Obj.mapSeq (·.setIfInBounds j u) { cls := .type "list", data := .seq its.toArray n } = { cls := .type "list", data := .seq (its.set j u).toArray n } := by
  simp [Obj.mapSeq]
theorem Inv.lst {pins : List (Addr × Obj)} {σ : St} {H : Hp} {s : Shared} {p : Addr} {xs : List V} (I : Inv X pins σ H s) (h : H p = some (.lst xs)) :
    ∃ (its : List Value) (n : Nat), Vals xs its ∧ s.heap.get? p = some { cls := .type "list", data := .seq its.toArray n } ∧ xs.length ≤ sizeLine := by
  obtain ⟨z, its, n, r, e⟩ := I.hok p _ h
  exact ⟨its, n, r, e, z⟩
/-- the list at p is written by an update of its object -/
theorem Inv.lstUpd {pins : List (Addr × Obj)} {σ : St} {H : Hp} {s : Shared} {p : Addr} {xs ys : List V} {its its' : List Value} {n n' : Nat} {f : Obj → Obj} (I : Inv X pins σ H s) (h : H p = some (.lst xs))
    (ho : s.heap.get? p = some { cls := .type "list", data := .seq its.toArray n }) (hf : f { cls := .type "list", data := .seq its.toArray n } = { cls := .type "list", data := .seq its'.toArray n' }) (r : Vals ys its') (hz : ys.length ≤ sizeLine) (t : Nat) :
    Inv X pins σ (upd H p (.lst ys)) { s with heap := s.heap.update p f, toks := t } := by
  have e : (s.heap.update p f).get? p = some { cls := .type "list", data := .seq its'.toArray n' } := by
    rw [Heap.get?_update_self f ho (by rw [hf] <;> rfl), hf]
  refine I.write (x := p) (e := p) (by rw [h]; trivial) (.inl rfl) (fun b u hb q => (Heap.get?_update_other _ _ (Ne.symm hb)).trans q) ⟨_, e⟩ ?_
  exact ⟨hz, its', n', r, e⟩
def rSetL : V → V → V → Hp → (Hp → Prop) → Prop := fun o i v H Q => ∃ p xs k j, o = .ref p ∧ i = .int k ∧ H p = some (.lst xs) ∧ ixN xs.length k = some j ∧ Q (upd H p (.lst (xs.set j v)))
theorem set_list : PSet X rSetL := by
  intro pins s σ H o i v ov iv u Q I ro ri rv h
  obtain ⟨p, xs, k, j, rfl, rfl, hp, hj, q⟩ := h
  cases ro
  obtain ⟨t, rfl⟩ := ri
  obtain ⟨its, n, r, ho, hz⟩ := I.lst hp
  obtain ⟨h1, h2, h3, h4⟩ := ixN_seq hj
  have hl := r.length
  have hn := line63
  have I' : Inv X pins σ (upd H p (.lst (xs.set j v))) { s with heap := s.heap.update p (Obj.mapSeq (·.setIfInBounds j u)) } :=
    I.lstUpd hp ho (mapSeq_set its n j u) (r.set rv j) (by rw [List.length_set]; exact hz) s.toks
  by_cases h0 : 0 ≤ k
  · have hk : k.toNat = j := by
      rw [seqIndex_of h0 h4] at h1
      exact Option.some.inj h1
    exact PySem.W.ki_setAt ho h0 (by omega) (by rw [List.size_toArray, ← hl]; exact h4) (by rw [hk]; exact ⟨_, I', q⟩)
  · have hk : (k + (its.toArray.size : Int)).toNat = j := by
      rw [seqIndex_neg (by omega) h3] at h1
      rw [List.size_toArray, ← hl]
      exact Option.some.inj h1
    exact PySem.W.ki_setBack ho (by omega) (by rw [List.size_toArray, ← hl]; exact h3) (by omega) (by rw [hk]; exact ⟨_, I', q⟩)

/-! ### slices -/
theorem slice_bounds (lo hi : Option Int) (n : Nat) : (sliceBounds lo hi none n).1 = ((HT.sIx n 0 lo : Nat) : Int) ∧ (sliceBounds lo hi none n).2.1 = ((HT.sIx n n hi : Nat) : Int) ∧ (sliceBounds lo hi none n).2.2 = 1 := by
  refine ⟨?_, ?_, rfl⟩
  · cases lo with
    | none => simp [sliceBounds, HT.sIx]
    | some i =>
      simp only [sliceBounds, HT.sIx, Option.getD_none, show (1 : Int) > 0 by decide, if_true]
      by_cases h : i < 0
      · simp only [h, if_true] <;> omega
      · simp only [h, if_false] <;> omega
  · cases hi with
    | none => simp [sliceBounds, HT.sIx]
    | some i =>
      simp only [sliceBounds, HT.sIx, Option.getD_none, show (1 : Int) > 0 by decide, if_true]
      by_cases h : i < 0
      · simp only [h, if_true] <;> omega
      · simp only [h, if_false] <;> omega
theorem slicePick_cut (its : List Value) (lo hi : Option Int) : slicePick its.toArray lo hi none = ((its.drop (HT.sIx its.length 0 lo)).take (HT.sIx its.length its.length hi - HT.sIx its.length 0 lo)).toArray := by
  obtain ⟨h1, h2, h3⟩ := slice_bounds lo hi its.toArray.size
  unfold slicePick
  rw [h1, h2, h3]
  simp only [sliceRange_one, pick_run, List.size_toArray] <;> rfl
/-- xs[lo:hi] of a list: a new list -/
def rSlL (K : PySem.W.Frag) : V → Option Int → Option Int → Hp → VK → Prop := fun x lo hi H Q => ∃ a xs, x = .ref a ∧ SqL K H a xs ∧ ∀ p, H p = none → Q (.ref p) (upd H p (.lst (cutV xs lo hi)))
theorem sl_list : SlR X (rSlL X.K) := by
  intro pins s σ H x v vl vu lo hi sl Q I rx hs pl pu h
  obtain ⟨a, xs, rfl, hx, q⟩ := h
  cases rx
  obtain ⟨its, r, ht, hz⟩ := I.list hx
  have hlen := r.length
  refine ⟨"list", _, slot_list_getitem.lookup, ht.isList.typeIs, ?_⟩
  refine wpAny_getItem_list_slice ht.isList hs pl pu .none (by simp) ?_ (by rw [List.size_toArray] <;> omega)
  rw [slicePick_cut, ← hlen]
  refine ⟨.ref s.heap.objs.size, _, I.laid (t' := s.toks) (o := .lst (cutV xs lo hi)) (fun b ob q => Heap.get?_push_of_some _ q) (Nat.le_refl _) ?_, rfl, q _ (I.hok.fresh (Nat.le_refl _))⟩
  exact ⟨Nat.le_trans (cutV_length xs lo hi) hz, _, 0, (r.drop (HT.sIx xs.length 0 lo)).take (HT.sIx xs.length xs.length hi - HT.sIx xs.length 0 lo), Heap.get?_push_size _ rfl⟩

/-! ### in, not in: flat items -/
def flatV : V → Bool
  | .non => true
  | .bl _ => true
  | .int _ => true
  | .str _ => true
  | _ => false
/-- == of flat values -/
def eqV : V → V → Bool
  | .non, .non => true
  | .bl a, .bl b => a == b
  | .bl a, .int b => (if a then 1 else 0) == b
  | .int a, .bl b => a == (if b then 1 else 0)
  | .int a, .int b => a == b
  | .str a, .str b => a == b
  | _, _ => false
theorem eqAt_V {A : Around} {s : Shared} {y x : V} {u v : Value} (ry : RelV y u) (rx : RelV x v) (fy : flatV y = true) (fx : flatV x = true) : SeqAt.EqAt A s u v (eqV y x) := by
  cases y with
  | non =>
    cases ry
    cases x with
    | non => cases rx; exact SeqAt.EqAt.same _
    | bl b => cases rx; exact SeqAt.EqAt.none_bool b
    | int b => obtain ⟨t, rfl⟩ := rx; exact SeqAt.EqAt.none_int b t
    | str b => obtain ⟨t, rfl⟩ := rx; exact SeqAt.EqAt.none_str b t
    | _ => exact absurd (show false = true from fx) Bool.false_ne_true
  | bl a =>
    cases ry
    cases x with
    | non => cases rx; exact SeqAt.EqAt.bool_none a
    | bl b => cases rx; exact SeqAt.EqAt.bool_bool a b
    | int b => obtain ⟨t, rfl⟩ := rx; exact SeqAt.EqAt.bool_int a b t
    | str b => obtain ⟨t, rfl⟩ := rx; exact SeqAt.EqAt.bool_str a b t
    | _ => exact absurd (show false = true from fx) Bool.false_ne_true
  | int a =>
    obtain ⟨t', rfl⟩ := ry
    cases x with
    | non => cases rx; exact SeqAt.EqAt.int_none a t'
    | bl b => cases rx; exact SeqAt.EqAt.int_bool a t' b
    | int b => obtain ⟨t, rfl⟩ := rx; exact SeqAt.EqAt.int_int a t' b t
    | str b => obtain ⟨t, rfl⟩ := rx; exact SeqAt.EqAt.int_str a t' b t
    | _ => exact absurd (show false = true from fx) Bool.false_ne_true
  | str a =>
    obtain ⟨t', rfl⟩ := ry
    cases x with
    | non => cases rx; exact SeqAt.EqAt.str_none a t'
    | bl b => cases rx; exact SeqAt.EqAt.str_bool a t' b
    | int b => obtain ⟨t, rfl⟩ := rx; exact SeqAt.EqAt.str_int a t' b t
    | str b => obtain ⟨t, rfl⟩ := rx; exact SeqAt.EqAt.str_str a t' b t
    | _ => exact absurd (show false = true from fx) Bool.false_ne_true
  | _ => exact absurd (show false = true from fy) Bool.false_ne_true
/-- the items' answers, read off the values (a value's own answer does not lean on its token) -/
def eqU (x : V) (u : Value) : Bool := match u with
  | .none => eqV .non x
  | .bool b => eqV (.bl b) x
  | .int i _ => eqV (.int i) x
  | .str z _ => eqV (.str z) x
  | _ => false
theorem eqU_of {x y : V} {u : Value} (r : RelV y u) (f : flatV y = true) : eqU x u = eqV y x := by
  cases y with
  | non => cases r; rfl
  | bl b => cases r; rfl
  | int i => obtain ⟨t, rfl⟩ := r; rfl
  | str z => obtain ⟨t, rfl⟩ := r; rfl
  | _ => exact absurd (show false = true from f) Bool.false_ne_true
theorem any_eqU {x : V} : ∀ {xs : List V} {us : List Value}, Vals xs us → xs.all flatV = true → us.any (eqU x) = xs.any fun y => eqV y x
  | _, _, .nil, _ => rfl
  | y :: xs, u :: us, .cons r t, f => by
    rw [List.all_cons, Bool.and_eq_true] at f
    rw [List.any_cons, List.any_cons, eqU_of r f.1, any_eqU t f.2]
theorem mem_eqAt {A : Around} {s : Shared} {x : V} {v : Value} (rx : RelV x v) (fx : flatV x = true) : ∀ {xs : List V} {us : List Value}, Vals xs us → xs.all flatV = true → ∀ u ∈ us, SeqAt.EqAt A s u v (eqU x u)
  | _, _, .nil, _ => fun u hu => by cases hu
  | y :: xs, u :: us, .cons r t, f => fun u' hu => by
    rw [List.all_cons, Bool.and_eq_true] at f
    rcases List.mem_cons.mp hu with rfl | hu
    · rw [eqU_of r f.1]; exact eqAt_V r rx f.1 fx
    · exact mem_eqAt rx fx t f.2 u' hu
def inV (x : V) (xs : List V) : Bool := xs.any fun y => eqV y x
/-- x in a list or tuple of flat items -/
def rIn (K : PySem.W.Frag) (neg : Bool) : R2 := fun x y H Q => ∃ p xs, y = .ref p ∧ (SqL K H p xs ∨ SqT K H p xs) ∧ flatV x = true ∧ xs.all flatV = true ∧ Q (.bl (if neg then !inV x xs else inV x xs)) H
theorem op_in_seq : OpR X (compareOp .In) (rIn X.K false) := by
  intro pins s σ H x y v u Q I rx ry h
  obtain ⟨p, xs, rfl, hq, fx, fs, q⟩ := h
  cases ry
  rcases hq with hq | hq
  · obtain ⟨its, r, pl, hz⟩ := I.list hq
    refine SeqAt.in_listAt (eqU x) pl.isList (fun w hw => mem_eqAt rx fx r fs w (by simpa using hw)) ⟨.bl _, H, I, rfl, ?_⟩
    rw [show its.toArray.any (eqU x) = its.any (eqU x) by simp, any_eqU r fs]
    exact q
  · obtain ⟨its, r, pl, hz⟩ := I.tuple hq
    refine SeqAt.in_tupleAt (eqU x) pl (fun w hw => mem_eqAt rx fx r fs w (by simpa using hw)) ⟨.bl _, H, I, rfl, ?_⟩
    rw [show its.toArray.any (eqU x) = its.any (eqU x) by simp, any_eqU r fs]
    exact q
theorem op_notIn_seq : OpR X (compareOp .NotIn) (rIn X.K true) := by
  intro pins s σ H x y v u Q I rx ry h
  obtain ⟨p, xs, rfl, hq, fx, fs, q⟩ := h
  cases ry
  rcases hq with hq | hq
  · obtain ⟨its, r, pl, hz⟩ := I.list hq
    refine SeqAt.notIn_listAt (eqU x) pl.isList (fun w hw => mem_eqAt rx fx r fs w (by simpa using hw)) ⟨.bl _, H, I, rfl, ?_⟩
    rw [show its.toArray.any (eqU x) = its.any (eqU x) by simp, any_eqU r fs]
    exact q
  · obtain ⟨its, r, pl, hz⟩ := I.tuple hq
    refine SeqAt.notIn_tupleAt (eqU x) pl (fun w hw => mem_eqAt rx fx r fs w (by simpa using hw)) ⟨.bl _, H, I, rfl, ?_⟩
    rw [show its.toArray.any (eqU x) = its.any (eqU x) by simp, any_eqU r fs]
    exact q
theorem op_notIn_str : OpR X (compareOp .NotIn) (fun x y H Q => ∃ i j, x = .str i ∧ y = .str j ∧ Q (.bl (!(!(Builtin.Str.occurrences j i 0 j.length 1).isEmpty))) H) := by
  intro pins s σ H x y v u Q I rx ry h
  obtain ⟨i, j, rfl, rfl, q⟩ := h
  obtain ⟨t, rfl⟩ := rx
  obtain ⟨t', rfl⟩ := ry
  exact notIn_str ⟨.bl _, H, I, rfl, q⟩

/-! ### len, list(x), tuple(x) of any list or tuple that is read -/
theorem call_len_seq : CallR X (.builtin "len") (fun xs H Q => ∃ p ys, xs = [.ref p] ∧ (SqL X.K H p ys ∨ SqT X.K H p ys) ∧ Q (.int ys.length) H) := by
  intro pins s σ H xs us Q I r h
  obtain ⟨p, ys, rfl, hq, q⟩ := h
  obtain ⟨u, rfl, rx⟩ := vals1 r
  cases rx
  have hn := line63
  rcases hq with hq | hq
  · obtain ⟨its, r', pl, hz⟩ := I.list hq
    have hlen := r'.length
    exact Calls.call_len_list pl.isList (by simp only [List.size_toArray] <;> omega) ⟨.int ys.length, H, I.tok _, ⟨s.toks + 1, by rw [List.size_toArray, hlen]⟩, q⟩
  · obtain ⟨its, r', pl, hz⟩ := I.tuple hq
    have hlen := r'.length
    exact len_tuple pl (by simp only [List.size_toArray] <;> omega) ⟨.int ys.length, H, I.tok _, ⟨s.toks + 1, by rw [List.size_toArray, hlen]⟩, q⟩
theorem call_len_str : CallR X (.builtin "len") (fun xs H Q => ∃ z, xs = [.str z] ∧ z.length ≤ sizeLine ∧ Q (.int z.length) H) := by
  intro pins s σ H xs us Q I r h
  obtain ⟨z, rfl, hz, q⟩ := h
  obtain ⟨u, rfl, t, rfl⟩ := vals1 r
  have hn := line63
  exact len_str (by omega) ⟨.int z.length, H, I.tok _, ⟨_, rfl⟩, q⟩
theorem CallR.or {f : Value} {r r' : List V → Hp → VK → Prop} (h : CallR X f r) (h' : CallR X f r') : CallR X f (fun xs H Q => r xs H Q ∨ r' xs H Q) := by
  intro pins s σ H xs us Q I rs q
  rcases q with q | q
  · exact h pins s σ H xs us Q I rs q
  · exact h' pins s σ H xs us Q I rs q
theorem call_list_of : CallR X (.type "list") (fun xs H Q => ∃ p ys, xs = [.ref p] ∧ (SqL X.K H p ys ∨ SqT X.K H p ys) ∧ ∀ l, H l = none → Q (.ref l) (upd H l (.lst ys))) := by
  intro pins s σ H xs us Q I r h
  obtain ⟨p, ys, rfl, hq, q⟩ := h
  obtain ⟨u, rfl, rx⟩ := vals1 r
  cases rx
  have fin : ∀ (its : List Value), Vals ys its → ys.length ≤ sizeLine → ∀ (h' : Heap) (c' : Nat), (∀ b o', s.heap.get? b = some o' → h'.get? b = some o') →
      h'.get? s.heap.objs.size = some { cls := .type "list", dict := none, data := .seq its.toArray c', slots := #[] } → EP X pins σ Q (.ref s.heap.objs.size) { s with heap := h' } := fun its r' hz h' c' kp e =>
    ⟨.ref s.heap.objs.size, _, I.laid (t' := s.toks) kp (Nat.le_refl _) (show ObjOk X.prog X.w _ h' _ (.lst ys) from ⟨hz, its, c', r', e⟩), rfl, q _ (I.hok.fresh (Nat.le_refl _))⟩
  rcases hq with hq | hq
  · obtain ⟨its, r', pl, hz⟩ := I.list hq
    have hlen := r'.length
    obtain ⟨o, ho, hc, n, hd⟩ := pl.isList
    exact call_list_seq p (.inl rfl) ho hc hd (fun h' c' kp e => fin its r' hz h' c' kp e) (by simp only [List.size_toArray] <;> omega)
  · obtain ⟨its, r', pl, hz⟩ := I.tuple hq
    have hlen := r'.length
    obtain ⟨o, ho, hc, n, hd⟩ := pl
    exact call_list_seq p (.inr rfl) ho hc hd (fun h' c' kp e => fin its r' hz h' c' kp e) (by simp only [List.size_toArray] <;> omega)
theorem call_tuple_of : CallR X (.type "tuple") (fun xs H Q => ∃ p ys, xs = [.ref p] ∧ ((SqL X.K H p ys ∧ ∀ l, H l = none → Q (.ref l) (upd H l (.tup ys))) ∨ (SqT X.K H p ys ∧ Q (.ref p) H))) := by
  intro pins s σ H xs us Q I r h
  obtain ⟨p, ys, rfl, h⟩ := h
  obtain ⟨u, rfl, rx⟩ := vals1 r
  cases rx
  rcases h with ⟨hq, q⟩ | ⟨hq, q⟩
  · obtain ⟨its, r', pl, hz⟩ := I.list hq
    have hlen := r'.length
    refine call_tuple_list pl.isList (fun h' kp => ?_) (by simp only [List.size_toArray] <;> omega)
    have I1 : Inv X pins σ H { s with heap := h' } := I.kept (t' := s.toks) kp
    have I2 : Inv X pins σ (upd H h'.objs.size (.tup ys)) { s with heap := h'.push { cls := .type "tuple", data := .seq its.toArray } } :=
      I1.laid (t' := s.toks) (fun b o e => Heap.get?_push_of_some _ e) (Nat.le_refl _) (show ObjOk X.prog X.w _ _ _ (.tup ys) from ⟨hz, its, r', IsTup.new _ _⟩)
    exact ⟨.ref h'.objs.size, _, I2, rfl, q _ (I1.hok.fresh (Nat.le_refl _))⟩
  · obtain ⟨its, r', pl, hz⟩ := I.tuple hq
    exact call_tuple_same pl ⟨.ref p, H, I, rfl, q⟩

/-! ### the call of a builtin's method: o.m(..) -/
/-- the value is of that builtin type -/
def tyV (K : PySem.W.Frag) (T : String) (x : V) (H : Hp) : Prop := match x with
  | .str _ => T = "str"
  | .int _ => T = "int"
  | .ref p => (T = "list" ∧ ∃ xs, SqL K H p xs) ∨ (T = "tuple" ∧ ∃ o, K.lookup p = some o ∧ o.cls = .type "tuple" ∧ o.dict = none) ∨
      (T = "dict" ∧ ((∃ kvs, H p = some (.dK kvs)) ∨ ∃ kvs, H p = some (.dT kvs))) ∨ (T = "set" ∧ ∃ S n, H p = some (.set S n))
  | _ => False
theorem tyV_is {pins : List (Addr × Obj)} {σ : St} {H : Hp} {s : Shared} {T : String} {x : V} {v : Value} (I : Inv X pins σ H s) (r : RelV x v) (ty : tyV X.K T x H) :
    s.TypeIs v T ∧ ∀ a, v = .ref a → ∃ ob, s.heap.get? a = some ob ∧ ob.dict = none := by
  cases x with
  | str z =>
    obtain ⟨t, rfl⟩ := r
    cases (show T = "str" from ty)
    exact ⟨typeIs_str s z t, fun _ e => nomatch e⟩
  | int i =>
    obtain ⟨t, rfl⟩ := r
    cases (show T = "int" from ty)
    exact ⟨typeIs_int s i t, fun _ e => nomatch e⟩
  | ref p =>
    cases r
    rcases ty with ⟨rfl, xs, hq⟩ | ⟨rfl, o, hk, hc, hd⟩ | ⟨rfl, hk⟩ | ⟨rfl, S, n, hk⟩
    · obtain ⟨its, _, pl, _⟩ := I.list hq
      refine ⟨pl.isList.typeIs, fun a e => ?_⟩
      cases e
      obtain ⟨o, n, e, c, hd, _⟩ := pl
      exact ⟨o, e, hd⟩
    · refine ⟨⟨o, I.kIn p o hk, hc⟩, fun a e => ?_⟩
      cases e
      exact ⟨o, I.kIn _ o hk, hd⟩
    · have z : ∃ o, s.heap.get? p = some o ∧ o.ExactDict := by
        rcases hk with ⟨kvs, hk⟩ | ⟨kvs, hk⟩
        · obtain ⟨_, _, _, _, o, _, _, e, ex, _⟩ := I.hok p _ hk
          exact ⟨o, e, ex⟩
        · obtain ⟨_, _, _, _, o, _, _, e, ex, _⟩ := I.hok p _ hk
          exact ⟨o, e, ex⟩
      obtain ⟨o, e, ex⟩ := z
      refine ⟨⟨o, e, ex.1⟩, fun a e2 => ?_⟩
      cases e2
      exact ⟨o, e, ex.2.1⟩
    · obtain ⟨o, _, _, _, e, ex, _⟩ := I.hok p _ hk
      refine ⟨⟨o, e, ex.1⟩, fun a e2 => ?_⟩
      cases e2
      exact ⟨o, e, ex.2.1⟩
  | _ => exact False.elim ty
def tBM0 (K : PySem.W.Frag) (T : String) (r : V → List V → Hp → VK → Prop) (to : TE) : TE := fun σ H Q => to σ H fun x H1 => tyV K T x H1 ∧ r x [] H1 Q
def tBM (K : PySem.W.Frag) (T : String) (r : V → List V → Hp → VK → Prop) (to : TE) (t : TA) : TE := fun σ H Q => to σ H fun x H1 => tyV K T x H1 ∧ t σ H1 fun xs H2 => r x xs H2 Q
variable {o e : Expr} {es : List Expr} {to : TE} {t : TA} {name : Str} {apos cpos : Pos} {T id : String} {r : V → List V → Hp → VK → Prop}
theorem pe_bm0 (pa : PlainAttrs T) (slot : Slot T name id) (hty : typeOf (.builtin id) = pure (.type "method_descriptor")) (hm : MtR X id r) (ho : PE X o to)
    (hbase : attributeBase o name X.env (eval o X.env) = eval o X.env := by rfl) (hline : (apos.endLine == cpos.line) = true := by rfl) : PE X (.Call (.Attribute o name apos) [] [] cpos) (tBM0 X.K T r to) := by
  intro pins s σ H Q I h
  refine wpAny_Call_method0_late hbase hline (thn (ho pins s σ H _ I h) fun v s1 ⟨x, H1, I1, r1, ty, q1⟩ => ?_)
  obtain ⟨h1, h2⟩ := tyV_is I1 r1 ty
  exact ⟨T, id, pa, slot, hty, h1, h2, Calls.callWith_builtin rfl (PySem.evalArgs_none (hm pins s1 σ H1 x [] v [] Q I1 r1 .nil q1))⟩
theorem pe_bm (pa : PlainAttrs T) (slot : Slot T name id) (hty : typeOf (.builtin id) = pure (.type "method_descriptor")) (hm : MtR X id r) (ho : PE X o to) (ha : PA X (e :: es) t)
    (hbase : attributeBase o name X.env (eval o X.env) = eval o X.env := by rfl)
    (hfew : ((backTo cpos (starEach (e :: es) X.env)).all (fun x => !x.1) && (backToKw cpos (keywordEach [] X.env)).all (fun x => x.1.isSome)
      && decide ((e :: es).length + ([] : List Keyword).length + (if ([] : List Keyword).isEmpty then 0 else 1) < 30)) = true := by rfl)
    (hline : (apos.endLine == cpos.line) = true := by rfl) (hs : starEach (e :: es) X.env = (false, eval e X.env) :: starEach es X.env := by rfl) (hplain : (backTo cpos (starEach es X.env)).any (·.1) = false := by rfl) :
    PE X (.Call (.Attribute o name apos) (e :: es) [] cpos) (tBM X.K T r to t) := by
  intro pins s σ H Q I h
  refine wpAny_Call_method_late hbase hfew hline rfl (thn (ho pins s σ H _ I h) fun v s1 ⟨x, H1, I1, r1, ty, q1⟩ => ?_)
  obtain ⟨h1, h2⟩ := tyV_is I1 r1 ty
  refine ⟨T, id, pa, slot, hty, h1, h2, ?_⟩
  have hA := ha cpos pins s1 σ H1 _ I1 q1
  rw [hs] at hA ⊢
  refine Calls.callWith_builtin (by show (false || (backTo cpos (starEach es X.env)).any (·.1)) = false; rw [hplain] <;> rfl) (Calls.evalArgs_plain ?_)
  exact thn hA fun us s2 ⟨vs, H2, I2, r2, q2⟩ => hm pins s2 σ H2 x vs v us Q I2 r1 r2 q2
/- xs.append(e), list.index on a module's tuple .. are MtR facts of 06m -/
end
end L2

namespace L2
open PySem PySem.Spec PyProof.Rows

def MtM (X : Cx) (id : String) (r : V → List V → Hp → VK → Prop) : Prop :=
  ∀ (pins : List (Addr × Obj)) (s : Shared) (σ : St) (H : Hp) (x : V) (xs : List V) (v : Value) (us : List Value) (Q : VK), Inv X pins σ H s → RelV x v → Vals xs us → r x xs H Q →
    wpAny (model X.prog X.w) X.A (call (.builtin id) (v :: us)) (EP X pins σ Q) X.xe s

/-! ### lists of values -/
theorem Vals.one : ∀ {x : V} {us : List Value}, Vals [x] us → ∃ u, us = [u] ∧ RelV x u
  | _, _, .cons r .nil => ⟨_, rfl, r⟩
theorem Vals.two : ∀ {x y : V} {us : List Value}, Vals [x, y] us → ∃ u v, us = [u, v] ∧ RelV x u ∧ RelV y v
  | _, _, _, .cons r (.cons q .nil) => ⟨_, _, rfl, r, q⟩
theorem Vals.zero : ∀ {us : List Value}, Vals [] us → us = []
  | _, .nil => rfl
theorem Vals.dropLast {xs : List V} {us : List Value} (h : Vals xs us) : Vals xs.dropLast us.dropLast := by
  induction h with
  | nil => exact .nil
  | cons r t ih =>
    cases t with
    | nil => exact .nil
    | cons q t' => exact .cons r ih
theorem Vals.eraseIdx : ∀ {xs : List V} {us : List Value} (i : Nat), Vals xs us → Vals (xs.eraseIdx i) (us.eraseIdx i)
  | _, _, _, .nil => .nil
  | _, _, 0, .cons _ t => t
  | _, _, i + 1, .cons r t => .cons r (Vals.eraseIdx i t)
theorem Vals.reverse {xs : List V} {us : List Value} (h : Vals xs us) : Vals xs.reverse us.reverse := by
  induction h with
  | nil => exact .nil
  | cons r t ih => rw [List.reverse_cons, List.reverse_cons]; exact Vals.append ih (.cons r .nil)
theorem Vals.rep {xs : List V} {us : List Value} (h : Vals xs us) : ∀ k : Nat, Vals (List.replicate k xs).flatten (List.replicate k us).flatten
  | 0 => .nil
  | k + 1 => by
    rw [List.replicate_succ, List.replicate_succ, List.flatten_cons, List.flatten_cons]
    exact Vals.append h (Vals.rep h k)
theorem erase_last {α : Type} (l : List α) : l.eraseIdx (l.length - 1) = l.dropLast := by
  induction l with
  | nil => rfl
  | cons a r ih =>
    cases r with
    | nil => rfl
    | cons b r =>
      have e : (a :: b :: r).length - 1 = ((b :: r).length - 1) + 1 := by
        have h1 : (a :: b :: r).length = r.length + 2 := rfl
        have h2 : (b :: r).length = r.length + 1 := rfl
        omega
      rw [e, List.eraseIdx_cons_succ, ih]
      all_goals rfl
theorem len_erase {α : Type} : ∀ (l : List α) (i : Nat), (l.eraseIdx i).length ≤ l.length
  | [], _ => Nat.le_refl _
  | _ :: _, 0 => Nat.le_succ _
  | _ :: r, i + 1 => Nat.succ_le_succ (len_erase r i)
theorem foldl_rep (its : List Value) : ∀ (k : Nat) (acc : List Value),
    List.foldl (fun x1 x2 => x1 ++ x2) acc.toArray (List.replicate k its.toArray) = (acc ++ (List.replicate k its).flatten).toArray
  | 0, acc => by simp
  | k + 1, acc => by
    have e : acc.toArray ++ its.toArray = (acc ++ its).toArray := by simp
    have e2 : (acc ++ its) ++ (List.replicate k its).flatten = acc ++ (List.replicate (k + 1) its).flatten := by
      rw [List.replicate_succ, List.flatten_cons, List.append_assoc]
    rw [← e2, ← foldl_rep its k (acc ++ its), ← e, List.replicate_succ, List.foldl_cons]

section
variable {X : Cx} {pins : List (Addr × Obj)} {σ : St} {H : Hp} {s : Shared} {l b : Addr} {xs ys zs : List V}

/-! ### the two steps: a tracked list is rewritten, a new list is laid -/
theorem Inv.lset {its its' : List Value} {n : Nat} {f : Array Value → Array Value} {t' : Nat} (I : Inv X pins σ H s) (hH : H l = some (.lst xs))
    (e : s.heap.get? l = some { cls := .type "list", data := .seq its.toArray n }) (hf : f its.toArray = its'.toArray) (hv : Vals ys its') (hz : ys.length ≤ sizeLine) :
    Inv X pins σ (upd H l (.lst ys)) { s with heap := s.heap.update l (Obj.mapSeq f), toks := t' } := by
  have q := PySem.IsL.update e f
  rw [hf] at q
  refine I.write (x := l) (e := l) (by rw [hH]; exact trivial) (.inl rfl) (fun b' u hb hu => (Heap.get?_update_other s.heap (Obj.mapSeq f) (Ne.symm hb)).trans hu) ⟨_, q⟩ ?_
  exact ⟨hz, its', _, hv, q⟩
theorem Inv.lnew {its : List Value} {t' : Nat} (I : Inv X pins σ H s) (hv : Vals ys its) (hz : ys.length ≤ sizeLine) :
    Inv X pins σ (upd H s.heap.objs.size (.lst ys)) { s with heap := s.heap.push { cls := .type "list", data := .seq its.toArray }, toks := t' } :=
  I.laid (fun _ _ q => Heap.get?_push_of_some _ q) (Nat.le_refl _) ⟨hz, its, 0, hv, Heap.get?_push_size _ rfl⟩
theorem Inv.fresh (I : Inv X pins σ H s) : H s.heap.objs.size = none := I.hok.fresh (Nat.le_refl _)
theorem Inv.lstM (I : Inv X pins σ H s) (hH : H l = some (.lst xs)) : xs.length ≤ sizeLine ∧ ∃ (its : List Value) (n : Nat), Vals xs its ∧ xs.length = its.length ∧ s.heap.get? l = some { cls := .type "list", data := .seq its.toArray n } := by
  obtain ⟨z, its, n, r, e⟩ := I.hok l _ hH
  exact ⟨z, its, n, r, r.length, e⟩

theorem notLongL {n : Nat} (h : n ≤ sizeLine) : Builtin.List.listTooLong n = false := by
  unfold Builtin.List.listTooLong
  exact decide_eq_false (by omega)
end

section
variable {X : Cx}

/-! ### methods -/
def rAppend : V → List V → Hp → VK → Prop := fun x vs H Q => ∃ l xs y, x = .ref l ∧ vs = [y] ∧ H l = some (.lst xs) ∧ xs.length < sizeLine ∧ Q .non (upd H l (.lst (xs ++ [y])))
theorem mt_append : MtM X "list.append" rAppend := by
  intro pins s σ H x vs v us Q I rx rv h
  obtain ⟨l, xs, y, rfl, rfl, hH, hz, q⟩ := h
  cases rx
  obtain ⟨u, rfl, ru⟩ := rv.one
  obtain ⟨z, its, n, r, hl, e⟩ := I.lstM hH
  refine call_meets F.slot_list_append ⟨_, e, rfl⟩ F.entry_list_append (F.args_list_append_2 _ _) (PySem.list_append l its.toArray n u (by rw [List.size_toArray]; omega)) ⟨e, ?_⟩
  refine ⟨.non, _, I.lset (its' := its ++ [u]) hH e (by simp) (r.append (.cons ru .nil)) ?_, rfl, q⟩
  rw [List.length_append, List.length_singleton]
  omega

def rExtend : V → List V → Hp → VK → Prop := fun x vs H Q => ∃ l b xs zs, x = .ref l ∧ vs = [.ref b] ∧ H l = some (.lst xs) ∧ H b = some (.lst zs) ∧ xs.length + zs.length ≤ sizeLine ∧ Q .non (upd H l (.lst (xs ++ zs)))
theorem mt_extend : MtM X "list.extend" rExtend := by
  intro pins s σ H x vs v us Q I rx rv h
  obtain ⟨l, b, xs, zs, rfl, rfl, hH, hB, hz, q⟩ := h
  cases rx
  obtain ⟨u, rfl, ru⟩ := rv.one
  cases ru
  obtain ⟨z, its, n, r, hl, e⟩ := I.lstM hH
  obtain ⟨z2, its2, n2, r2, hl2, e2⟩ := I.lstM hB
  have hsz : its.toArray.size + its2.toArray.size ≤ sizeLine := by rw [List.size_toArray, List.size_toArray]; omega
  have hlong : ¬ (!its.toArray.isEmpty && Builtin.List.listTooLong (its.toArray.size + its2.toArray.size)) = true := by
    rw [notLongL hsz, Bool.and_false]
    exact Bool.false_ne_true
  refine call_meets F.slot_list_extend ⟨_, e, rfl⟩ F.entry_list_extend (F.args_list_extend_2 _ _)
    (AutoSeq1.list_extend_list_list_0 l its.toArray n b its2.toArray n2 hlong (by rw [List.size_toArray]; omega) (by omega)) ⟨e, e2, ?_⟩
  refine ⟨.non, _, I.lset (its' := its ++ its2) hH e (by simp) (r.append r2) ?_, rfl, q⟩
  rw [List.length_append]
  omega

def rPop : V → List V → Hp → VK → Prop := fun x vs H Q => ∃ l xs y, x = .ref l ∧ vs = [] ∧ H l = some (.lst xs) ∧ xs[xs.length - 1]? = some y ∧ Q y (upd H l (.lst xs.dropLast))
theorem mt_pop : MtM X "list.pop" rPop := by
  intro pins s σ H x vs v us Q I rx rv h
  obtain ⟨l, xs, y, rfl, rfl, hH, hy, q⟩ := h
  cases rx
  have hus := rv.zero
  subst hus
  obtain ⟨z, its, n, r, hl, e⟩ := I.lstM hH
  obtain ⟨u, hu, ru⟩ := r.get hy
  have hy' : its.toArray[its.toArray.size - 1]? = some u := by
    show its.toArray[its.length - 1]? = some u
    rw [← Array.getElem?_toList, ← hl]
    exact hu
  refine call_meets F.slot_list_pop ⟨_, e, rfl⟩ F.entry_list_pop (F.args_list_pop_1 _) (MeetsSeq.list_pop_last l its.toArray n u hy' (by rw [List.size_toArray]; omega)) ⟨e, ?_⟩
  refine ⟨y, _, I.lset (its' := its.dropLast) hH e ?_ r.dropLast ?_, ru, q⟩
  · show its.toArray.eraseIdxIfInBounds (its.toArray.size - 1) = its.dropLast.toArray
    rw [List.size_toArray, List.eraseIdxIfInBounds_toArray, erase_last]
  · rw [List.length_dropLast]
    omega

def rPopAt : V → List V → Hp → VK → Prop := fun x vs H Q => ∃ l xs i k y, x = .ref l ∧ vs = [.int i] ∧ H l = some (.lst xs) ∧ -(2 ^ 63) ≤ i ∧ i < 2 ^ 63 ∧ seqIndex? i xs.length = some k ∧ xs[k]? = some y ∧ Q y (upd H l (.lst (xs.eraseIdx k)))
theorem mt_popAt : MtM X "list.pop" rPopAt := by
  intro pins s σ H x vs v us Q I rx rv h
  obtain ⟨l, xs, i, k, y, rfl, rfl, hH, h1, h2, hk, hy, q⟩ := h
  cases rx
  obtain ⟨u, rfl, ru⟩ := rv.one
  obtain ⟨t, rfl⟩ := ru
  obtain ⟨z, its, n, r, hl, e⟩ := I.lstM hH
  obtain ⟨w, hw, rw'⟩ := r.get hy
  refine call_meets F.slot_list_pop ⟨_, e, rfl⟩ F.entry_list_pop (F.args_list_pop_2 _ _)
    (MeetsSeq.list_pop_at l its.toArray n i t k w (fitsIndex_both h1 h2) (by rw [List.size_toArray, ← hl]; exact hk) (by rw [← Array.getElem?_toList]; exact hw) (by rw [List.size_toArray]; omega)) ⟨e, ?_⟩
  refine ⟨y, _, I.lset (its' := its.eraseIdx k) hH e ?_ (r.eraseIdx k) ?_, rw', q⟩
  · show its.toArray.eraseIdxIfInBounds k = (its.eraseIdx k).toArray
    rw [List.eraseIdxIfInBounds_toArray]
  · have := len_erase xs k
    omega

def rReverse : V → List V → Hp → VK → Prop := fun x vs H Q => ∃ l xs, x = .ref l ∧ vs = [] ∧ H l = some (.lst xs) ∧ Q .non (upd H l (.lst xs.reverse))
theorem mt_reverse : MtM X "list.reverse" rReverse := by
  intro pins s σ H x vs v us Q I rx rv h
  obtain ⟨l, xs, rfl, rfl, hH, q⟩ := h
  cases rx
  have hus := rv.zero
  subst hus
  obtain ⟨z, its, n, r, hl, e⟩ := I.lstM hH
  refine call_meets F.slot_list_reverse ⟨_, e, rfl⟩ F.entry_list_reverse (F.args_list_reverse_1 _) (AutoSeq1.list_reverse_list_0 l its.toArray n (by rw [List.size_toArray]; omega)) ⟨e, ?_⟩
  refine ⟨.non, _, I.lset (its' := its.reverse) hH e (by simp) r.reverse ?_, rfl, q⟩
  rw [List.length_reverse]
  omega

def rClear : V → List V → Hp → VK → Prop := fun x vs H Q => ∃ l xs, x = .ref l ∧ vs = [] ∧ H l = some (.lst xs) ∧ Q .non (upd H l (.lst []))
theorem mt_clear : MtM X "list.clear" rClear := by
  intro pins s σ H x vs v us Q I rx rv h
  obtain ⟨l, xs, rfl, rfl, hH, q⟩ := h
  cases rx
  have hus := rv.zero
  subst hus
  obtain ⟨z, its, n, r, hl, e⟩ := I.lstM hH
  refine call_meets F.slot_list_clear ⟨_, e, rfl⟩ F.entry_list_clear (F.args_list_clear_1 _) (AutoSeq1.list_clear_list_0 l its.toArray n (by rw [List.size_toArray]; omega)) ⟨e, ?_⟩
  exact ⟨.non, _, I.lset (its' := []) (ys := []) hH e rfl .nil (Nat.zero_le _), rfl, q⟩

/-! ### list + list, list += list, list * int -/
def rCat : R2 := fun x y H Q => ∃ l b xs zs, x = .ref l ∧ y = .ref b ∧ H l = some (.lst xs) ∧ H b = some (.lst zs) ∧ xs.length + zs.length ≤ sizeLine ∧ ∀ p, H p = none → Q (.ref p) (upd H p (.lst (xs ++ zs)))
theorem op_cat : OpR X (binaryOp .Add) rCat := by
  intro pins s σ H x y v u Q I rx ry h
  obtain ⟨l, b, xs, zs, rfl, rfl, hH, hB, hz, q⟩ := h
  cases rx
  cases ry
  obtain ⟨z, its, n, r, hl, e⟩ := I.lstM hH
  obtain ⟨z2, its2, n2, r2, hl2, e2⟩ := I.lstM hB
  refine PySem.P.add_list e e2 ?_ (by rw [List.size_toArray, List.size_toArray]; omega)
  have ea : its.toArray ++ its2.toArray = (its ++ its2).toArray := by simp
  rw [ea]
  exact ⟨.ref _, _, I.lnew (t' := s.toks) (r.append r2) (by rw [List.length_append]; omega), rfl, q _ I.fresh⟩
/-- a list times an int (a negative one is nothing) -/
def rRep : R2 := fun x y H Q => ∃ l k xs, x = .ref l ∧ y = .int k ∧ H l = some (.lst xs) ∧ -(2 ^ 63) ≤ k ∧ k < 2 ^ 63 ∧ xs.length * k.toNat ≤ sizeLine ∧
  ∀ p, H p = none → Q (.ref p) (upd H p (.lst (List.replicate k.toNat xs).flatten))
theorem len_rep {α : Type} (xs : List α) (k : Nat) : (List.replicate k xs).flatten.length = k * xs.length := by
  induction k with
  | zero => simp
  | succ k ih => rw [List.replicate_succ, List.flatten_cons, List.length_append, ih, Nat.succ_mul, Nat.add_comm]
theorem op_rep : OpR X (binaryOp .Mult) rRep := by
  intro pins s σ H x y v u Q I rx ry h
  obtain ⟨l, k, xs, rfl, rfl, hH, h1, h2, hz, q⟩ := h
  cases rx
  obtain ⟨t, rfl⟩ := ry
  obtain ⟨z, its, n, r, hl, e⟩ := I.lstM hH
  have hlen : its.toArray.size * k.toNat ≤ sizeLine := by rw [List.size_toArray, ← hl]; exact hz
  have hcap : ¬ its.toArray.size * k.toNat > (2 ^ 63 - 1) / 8 := by
    have : (sizeLine : Nat) ≤ (2 ^ 63 - 1) / 8 := by decide
    omega
  have hfit : ¬ (!Builtin.List.listFitsIndex k) = true := by
    rw [fitsIndex_both h1 h2]
    exact Bool.false_ne_true
  have hlong : ¬ Builtin.List.listTooLong (its.toArray.size * k.toNat) = true := by
    rw [notLongL hlen]
    exact Bool.false_ne_true
  have hnew : List.foldl (fun x1 x2 => x1 ++ x2) #[] (List.replicate (if its.toArray.isEmpty = true then 0 else k.toNat) its.toArray) = (List.replicate k.toNat its).flatten.toArray := by
    have f0 : ∀ m : Nat, List.foldl (fun x1 x2 => x1 ++ x2) #[] (List.replicate m its.toArray) = (List.replicate m its).flatten.toArray := fun m => by
      have := foldl_rep its m []
      rw [List.nil_append] at this
      exact this
    rw [f0]
    cases its with
    | nil => simp
    | cons a r' => rw [if_neg (by simp)]
  refine wpAny_binaryOp_repeat_ref (T := "list") (U := "int") (by decide) ⟨_, e, rfl⟩ (fun s' => typeIs_int s' k t) noFill_list_mul F.fills_int_mul F.slot_int_rmul repeat_list F.slot_int_index.lookup
    (call_meets F.slot_int_rmul (typeIs_int s k t) F.entry_int_rmul (F.args_int_rmul_2 _ _) (int___rmul___int_list k t l its.toArray n)
      ⟨e, rfl, ⟨_, e, rfl⟩, call_meets F.slot_list_mul ⟨_, e, rfl⟩ F.entry_list_mul (F.args_list_mul_2 _ _) (AutoListH.list___mul___list_int_3 l its.toArray n k t hfit hcap hlong) ⟨e, ?_⟩⟩)
  rw [hnew]
  exact ⟨.ref _, _, I.lnew (t' := s.toks) (r.rep k.toNat) (by rw [len_rep, Nat.mul_comm]; exact hz), rfl, q _ I.fresh⟩

/-! ### del xs[i] -/
theorem del_list {pins : List (Addr × Obj)} {s : Shared} {σ : St} {H : Hp} {l : Addr} {xs : List V} {i : Int} {t : Tok} {k : Nat} {Q : Unit → Shared → Prop} (I : Inv X pins σ H s) (hH : H l = some (.lst xs))
    (h1 : -(2 ^ 63) ≤ i) (h2 : i < 2 ^ 63) (hk : seqIndex? i xs.length = some k) (h : ∀ s', Inv X pins σ (upd H l (.lst (xs.eraseIdx k))) s' → Q () s') :
    wpAny (model X.prog X.w) X.A (delItem (.ref l) (.int i t)) Q X.xe s := by
  obtain ⟨z, its, n, r, hl, e⟩ := I.lstM hH
  refine PySem.P.delItem_list (k := k) e (fitsIndex_both h1 h2) (by rw [List.size_toArray, ← hl]; exact hk) (h _ ?_) (by rw [List.size_toArray]; omega)
  refine I.lset (its' := its.eraseIdx k) (t' := s.toks) hH e ?_ (r.eraseIdx k) ?_
  · show its.toArray.eraseIdxIfInBounds k = (its.eraseIdx k).toArray
    rw [List.eraseIdxIfInBounds_toArray]
  · have := len_erase xs k
    omega
end

/-! ### xs[a:b] = ys -/
section
variable {prog : Program} {w : World} {A : Around} {E : Value → Shared → Prop} {s : Shared}
theorem splice_eq (its its2 : List Value) (a c : Nat) : its.toArray.extract 0 a ++ its2.toArray ++ its.toArray.extract c its.toArray.size = (its.take a ++ its2 ++ its.drop c).toArray := by
  apply Array.toList_inj.mp
  first
    | (simp
       exact List.take_of_length_le (by simp))
    | simp [List.take_of_length_le]
    | simp
theorem bounds_run {a c n : Nat} (hac : a ≤ c) (hc : c ≤ n) : sliceBounds (some (a : Int)) (some (c : Int)) none n = ((a : Int), (c : Int), 1) := by
  simp only [sliceBounds, Option.getD_none]
  have h1 : ¬ ((a : Int) < 0) := by omega
  have h2 : ¬ ((c : Int) < 0) := by omega
  simp only [h1, h2, if_false, show (1 : Int) > 0 by decide, if_true]
  congr 1
  · omega
  · congr 1; omega
set_option maxRecDepth 100000 in
/-- list.__setitem__ with a slice of step one and another list -/
theorem setItem_slice {l b sl : Addr} {items new : Array Value} {n n2 : Nat} {vl vu : Value} {a c : Nat} {Q : Unit → Shared → Prop}
    (e : s.heap.get? l = some { cls := .type "list", data := .seq items n }) (e2 : s.heap.get? b = some { cls := .type "list", data := .seq new n2 }) (hne : l ≠ b)
    (hs : s.heap.IsSliceOf sl vl vu .none) (pl : IsPart vl (some (a : Int))) (pu : IsPart vu (some (c : Int))) (hac : a ≤ c) (hc : c ≤ items.size)
    (hsz : items.size + new.size ≤ sizeLine) (h : Q () { s with heap := s.heap.update l (Obj.mapSeq fun xs => xs.extract 0 a ++ new ++ xs.extract c xs.size) }) :
    wpAny (model prog w) A (setItem (.ref l) (.ref sl) (.ref b)) Q E s := by
  have hl : s.heap.IsList l items := PySem.IsL.isList e
  have hb : s.heap.IsList b new := PySem.IsL.isList e2
  obtain ⟨os, hos, hcs, hds⟩ := id hs
  have hTs : s.TypeIs (.ref sl) "slice" := ⟨os, hos, hcs⟩
  have hstep : ¬ ((rawPart none == rawInt 0) = true) := Bool.false_ne_true
  have hsame : Builtin.List.listSameRef (.ref l) (.ref b) = false := by
    unfold Builtin.List.listSameRef
    exact beq_eq_false_iff_ne.mpr hne
  have hmax : (max (a : Int) (c : Int)).toNat = c := by omega
  have hz' : ((fun xs : Array Value => xs.extract 0 a ++ new ++ xs.extract c xs.size) items).size ≤ sizeLine + 1 := by
    simp only [Array.size_append, Array.size_extract]
    omega
  unfold setItem
  try with_reducible refine wpAny_holding ?_
  first | refine wpAny_bind (wpAny_pure ?_) | skip
  refine wpAny_bind (wpAny_sequenceKey hl.typeIs (by decide) ?_)
  refine wpAny_bind (wpAny_callSpecial?_slot (name := Str.ofString "__setitem__") hl.typeIs slot_list_setitem
    (wpAny_call_entry slot_list_setitem hl.typeIs entry_list_setitem ?_ (args_list_setitem _ _ _)))
  show wpAny _ _ (Builtin.List.listSubscript? (.ref sl) >>= _) _ _ s
  refine wpAny_bind ?_
  unfold Builtin.List.listSubscript?
  refine wpAny_bind (wpAny_specialOf hTs slice_no_index ?_)
  simp only [Option.isNone_none, if_true]
  refine wpAny_pure ?_
  show wpAny _ _ (typeOf (.ref sl) >>= _) _ _ s
  refine wpAny_bind (wpAny_typeOf hTs ?_)
  first
    | rw [if_neg (by decide)]
    | refine PySem.W.KFB.if_not (by decide) ?_
  rw [listSliceParts_eq]
  refine wpAny_bind (wpAny_bind (wpAny_field hos hds (x := .none) rfl (wpAny_bind (wpAny_listPart .none ?_))))
  rw [if_neg hstep]
  refine wpAny_bind (wpAny_field hos hds (x := vl) rfl (wpAny_bind (wpAny_listPart pl ?_)))
  refine wpAny_bind (wpAny_field hos hds (x := vu) rfl (wpAny_bind (wpAny_listPart pu (wpAny_pure ?_))))
  first
    | simp only [hsame, Bool.false_eq_true, if_false]
    | refine PySem.W.KFB.if_not hsame ?_
    | (dsimp only
       rw [if_neg (by rw [hsame]; exact Bool.false_ne_true)])
  refine wpAny_bind (m := Builtin.List.listAllItems (.ref b) "must assign iterable to extended slice") ?_
  unfold Builtin.List.listAllItems
  refine wpAny_bind (wpAny_typeOf hb.typeIs ?_)
  first
    | refine PySem.W.KFB.if_so (by decide) ?_
    | rw [if_pos (by decide)]
    | simp only [beq_self_eq_true, Bool.true_or, if_true]
  unfold Builtin.List.listItems
  refine wpAny_bind (wpAny_seqItems e2 rfl (wpAny_pure ?_))
  refine wpAny_bind (wpAny_bind (wpAny_seqItems e rfl (wpAny_pure ?_)))
  refine wpAny_bind (wpAny_of_eq ((sliceIndices_raw (some (a : Int)) (some (c : Int)) none items.size (by simp)).trans (congrArg (pure : Int × Int × Int → Sem (Int × Int × Int)) (bounds_run hac hc))) ?_)
  show wpAny _ _ (if ((1 : Int) == 1) = true then _ else _) _ _ s
  rw [if_pos (by decide)]
  refine wpAny_bind (wpAny_rule ?_)
  first
    | simp only [notLongL hsz, Bool.false_eq_true, if_false]
    | refine PySem.W.KFB.if_not (notLongL hsz) ?_
  first | refine wpAny_bind (wpAny_pure ?_) | skip
  show wpAny _ _ (updateSeq l (fun xs => xs.extract 0 ((a : Int)).toNat ++ new ++ xs.extract (max (a : Int) (c : Int)).toNat xs.size) >>= _) _ _ s
  rw [hmax, Int.toNat_natCast]
  refine wpAny_bind (wpAny_updateSeq (hz := Nat.le_trans (Nat.le_add_right _ _) hsz) (_hz' := hz') e rfl ?_)
  refine wpAny_bind (wpAny_letGo ?_)
  first
    | exact wpAny_bind (wpAny_pure (wpAny_pure ⟨.none, rfl, wpAny_pure h⟩))
    | exact wpAny_pure ⟨.none, rfl, wpAny_pure h⟩
end

section
variable {X : Cx}
/-- xs[a:c] = ys of another list, at the value level: sl is the slice object that was just made -/
theorem set_slice {pins : List (Addr × Obj)} {s : Shared} {σ : St} {H : Hp} {l b sl : Addr} {xs ys : List V} {a c : Int} {vl vu : Value} {Q : Unit → Shared → Prop} (I : Inv X pins σ H s)
    (hH : H l = some (.lst xs)) (hB : H b = some (.lst ys)) (hne : l ≠ b) (hs : s.heap.IsSliceOf sl vl vu .none) (ra : RelV (.int a) vl) (rc : RelV (.int c) vu) (h0 : 0 ≤ a) (hac : a ≤ c) (hc : c ≤ xs.length)
    (hz : xs.length + ys.length ≤ sizeLine) (h : ∀ s', Inv X pins σ (upd H l (.lst (xs.take a.toNat ++ ys ++ xs.drop c.toNat))) s' → Q () s') :
    wpAny (model X.prog X.w) X.A (setItem (.ref l) (.ref sl) (.ref b)) Q X.xe s := by
  obtain ⟨ta, rfl⟩ := ra
  obtain ⟨tc, rfl⟩ := rc
  obtain ⟨z, its, n, r, hl, e⟩ := I.lstM hH
  obtain ⟨z2, its2, n2, r2, hl2, e2⟩ := I.lstM hB
  obtain ⟨a', rfl⟩ := Int.eq_ofNat_of_zero_le h0
  obtain ⟨c', rfl⟩ := Int.eq_ofNat_of_zero_le (Int.le_trans h0 hac)
  simp only [Int.toNat_natCast] at h
  refine setItem_slice (a := a') (c := c') e e2 hne hs (.int _ _) (.int _ _) (by omega) (by rw [List.size_toArray]; omega) (by rw [List.size_toArray, List.size_toArray]; omega) (h _ ?_)
  refine I.lset (its' := its.take a' ++ its2 ++ its.drop c') (t' := s.toks) hH e ?_ (Vals.append (Vals.append (r.take _) r2) (r.drop _)) ?_
  · exact splice_eq its its2 a' c'
  · rw [List.length_append, List.length_append, List.length_take, List.length_drop]
    omega
end
end L2

namespace Att
open PySem PySem.W PySem.Calls PyProof.Rows

/-! ### the script -/
theorem ints_of_wellAll {P : Params} {h : Heap} : ∀ (ns : List Int) (vs : List Value), WellAll P h vs (ns.map WData.int) → IntsAre vs ns := by
  intro ns
  induction ns with
  | nil =>
    intro vs w
    rw [List.map_nil] at w
    cases w
    exact .nil
  | cons n ns ih =>
    intro vs w
    rw [List.map_cons] at w
    cases w with
    | cons a b =>
      cases a
      exact .cons _ _ (ih _ b)

theorem script_of {l : OpenLaw} {n : Nat} (hn : l.most = some n) {P : Params} {h : Heap} {args : List WData} {vals : List Value}
    (hpre : l.row.toRowW.claim.pre args = true) (hwl : WellAll P h vals args) :
    ∃ a vs ns, vals = [Value.ref a] ∧ args = [WData.list (ns.map WData.int)] ∧ h.get? a = some { cls := .type "list", data := .seq vs.toArray } ∧ IntsAre vs ns ∧ ns.length ≤ n := by
  have hsh : WShape.hasAll [] args [.list .int] = true := (pre_splitW hpre).1
  have hc : l.pre.holds [] { args := args } = true := (pre_splitW hpre).2
  obtain ⟨d, r, rfl, h1, h2⟩ := hasAllW_cons hsh
  obtain rfl := hasAllW_nil h2
  obtain ⟨xs, rfl, h3⟩ := hasW_list h1
  obtain ⟨ns, rfl⟩ := items_int h3
  have hlen : ns.length ≤ n := by
    unfold OpenLaw.pre at hc
    have h4 : (WTm.not (.lt (.lit (.int (n : Int))) (.len (.arg 0)))).holds [] { args := [.list (ns.map .int)] } = true := by
      have h4 := (holds_andW hc).1
      rw [hn] at h4
      exact h4
    have h5 := condW_of h4 (w_not (w_lt w_lit (w_len_list (w_arg rfl))))
    rw [List.length_map] at h5
    refine Nat.le_of_not_lt fun q => ?_
    have q' : (n : Int) < ((ns.length : Nat) : Int) := by omega
    first
      | (rw [decide_eq_true q'] at h5; exact absurd h5 (by decide))
      | (simp at h5; omega)
  cases hwl with
  | cons w1 w2 =>
    cases w2
    cases w1 with
    | list ho hall => exact ⟨_, _, ns, rfl, rfl, ho, ints_of_wellAll ns _ hall, hlen⟩

theorem post_true (l : OpenLaw) (args : List WData) : l.row.toRowW.claim.post args (.bool true) args = true :=
  postW_of (r := l.row.toRowW) (X := (true == true))
    (show WShape.has [] (.bool true) .bool = true by first | rfl | decide | simp [WShape.has, WShape.arms, WShape.armsAll])
    (show (WTm.eq .res (.lit (.bool true))).value [] { args := args, res := some (.bool true), after := args } = some (.bool (true == true)) from w_eq_bool (w_res rfl) w_lit) rfl

/-! ### the attachment: holds_open's last premise (the goal 'hc' behind k_head) from a wpAny of the law's body -/
theorem attach {l : OpenLaw} {n : Nat} {q : Program} {loose : List Str} {XP : (Str → Option Value) → Heap → Prop} {YP : World → Heap → Prop} {d : DefRec} {x : Str}
    (hn : l.most = some n) (hdf : d.params.defaults = [])
    (hbind : ∀ pm cd doc v : Value, bindArgs (docDef d.name d.params d.body d.scope pm cd doc) ⟨[v], []⟩ = pure [(x, v)])
    (hx : d.scope.names.lookup x = some .local ∨ d.scope.names.lookup x = some .cell)
    (hk : d.scope.kind = .function) (hco : d.scope.isCoroutine = false) (hgen : d.scope.isGenerator = false)
    (body : ∀ (w : World) (s₀ s₁ s : Shared) (mg mb : Str → Option Value) (fa : Addr) (o : Obj) (pm cd doc : Value) (a : Addr) (vs : List Value) (ns : List Int),
      Ground q loose [] XP w s₀ mg mb s₁.heap → YP w s₁.heap →
      s₁.heap.get? fa = some o → o.data = .func (docDef d.name d.params d.body d.scope pm cd doc) → s₁.heap.CodeRec cd d.name → mg d.name = some (.ref fa) →
      s₁.heap.get? a = some { cls := .type "list", data := .seq vs.toArray } → IntsAre vs ns → ns.length ≤ n →
      s.gens = #[] → s.os = s₁.os →
      Fr s₁.heap s₁.heap.objs.size s.heap (bindL (envOfC d.name d.scope s₁.heap.objs.size fa cd).kindOf [(x, .ref a)] fun _ => none) →
      Cl s₁.heap.objs.size (cellsFrom (s₁.heap.objs.size + 1) d.scope.names []) s.heap (bindC (envOfC d.name d.scope s₁.heap.objs.size fa cd).kindOf [(x, .ref a)] fun _ => none) →
      wpAny (model l.prog w) (callerA.deeper (envOfC d.name d.scope s₁.heap.objs.size fa cd)) (execs d.body (envOfC d.name d.scope s₁.heap.objs.size fa cd))
        (fun f s' => f = .ret (.bool true) ∧ OldK s₁.heap s'.heap ∧ s'.os = s₁.os ∧ AllBare s'.gens) (fun _ _ => False) s) :
    WalkO q loose XP YP l.row.toRowW d [] (fun f vs => PySem.call f vs) := by
  intro w s₀ s₁ mg mb G Y fa o pm cd doc dV kV ho hd hcd hD hmg hg args vals as hpre hlay hrd hwl hlo
  obtain rfl : dV = .none := Dflts.none hD hdf
  obtain rfl : kV = .none := Dflts.noKw hD
  obtain ⟨a, vs, ns, rfl, rfl, hobj, hints, hlen⟩ := script_of hn hpre hwl
  refine enter_call ?_
  refine call_cells_ret (o := o) (by rw [depth_caller]; decide) ho (fd_plain hd) G.T.nolimit hcd (hbind pm cd doc (.ref a)) (fun y hy => ?_) (fun h₁ tk F X => ?_) hco hgen hk
  · obtain rfl : y = (x, Value.ref a) := List.mem_singleton.mp hy
    rcases hx with e | e
    · exact .inl e
    · exact .inr ⟨e, cellsFrom_some _ _ _ (.inl e)⟩
  · refine wpAny_mono (body w s₀ s₁ { s₁ with heap := h₁, toks := tk } mg mb fa o pm cd doc a vs ns G Y ho (fd_plain hd) hcd hmg hobj hints hlen hg rfl F X) (fun f s' hq => ?_) (fun _ _ hq => hq)
    obtain ⟨rfl, h2, h3, h4⟩ := hq
    exact ⟨.inl ⟨.bool true, .bool true, [], rfl, fun _ => rfl, .bool true, post_true l _, fun _ => ⟨List.Pairwise.nil, fun _ hm => (nomatch hm)⟩⟩, h2, h3, h4⟩

/-- the same from a codeAny of the CALL (for a layer whose function contracts speak of calls) -/
theorem attach_call {l : OpenLaw} {n : Nat} {q : Program} {loose : List Str} {XP : (Str → Option Value) → Heap → Prop} {YP : World → Heap → Prop} {d : DefRec}
    (hn : l.most = some n) (hdf : d.params.defaults = [])
    (call : ∀ (w : World) (s₀ s₁ : Shared) (mg mb : Str → Option Value) (fa : Addr) (o : Obj) (pm cd doc : Value) (a : Addr) (vs : List Value) (ns : List Int),
      Ground q loose [] XP w s₀ mg mb s₁.heap → YP w s₁.heap →
      s₁.heap.get? fa = some o → o.data = .func (docDef d.name d.params d.body d.scope pm cd doc) → s₁.heap.CodeRec cd d.name → mg d.name = some (.ref fa) →
      s₁.heap.get? a = some { cls := .type "list", data := .seq vs.toArray } → IntsAre vs ns → ns.length ≤ n → s₁.gens = #[] →
      codeAny (model l.prog w) callerA (.call (.ref fa) ⟨[.ref a], []⟩) (fun r s' => r = .ok (.ret (.bool true)) ∧ OldK s₁.heap s'.heap ∧ s'.os = s₁.os ∧ AllBare s'.gens) s₁) :
    WalkO q loose XP YP l.row.toRowW d [] (fun f vs => PySem.call f vs) := by
  intro w s₀ s₁ mg mb G Y fa o pm cd doc dV kV ho hd hcd hD hmg hg args vals as hpre hlay hrd hwl hlo
  obtain rfl : dV = .none := Dflts.none hD hdf
  obtain rfl : kV = .none := Dflts.noKw hD
  obtain ⟨a, vs, ns, rfl, rfl, hobj, hints, hlen⟩ := script_of hn hpre hwl
  refine enter_call (codeAny_mono (call w s₀ s₁ mg mb fa o pm cd doc a vs ns G Y ho (fd_plain hd) hcd hmg hobj hints hlen hg) fun r s' hq => ?_)
  obtain ⟨rfl, h2, h3, h4⟩ := hq
  exact ⟨.inl ⟨.bool true, .bool true, [], rfl, fun _ => rfl, .bool true, post_true l _, fun _ => ⟨List.Pairwise.nil, fun _ hm => (nomatch hm)⟩⟩, h2, h3, h4⟩

/-- the same where the top left finished generators (o_head chose holds_openN): nothing may have changed at all and no generator may be left -/
theorem attachN {l : OpenLaw} {n : Nat} {q : Program} {loose : List Str} {XP : (Str → Option Value) → Heap → Prop} {YP : World → Heap → Prop} {d : DefRec} {x : Str}
    (hn : l.most = some n) (hdf : d.params.defaults = [])
    (hbind : ∀ pm cd doc v : Value, bindArgs (docDef d.name d.params d.body d.scope pm cd doc) ⟨[v], []⟩ = pure [(x, v)])
    (hx : d.scope.names.lookup x = some .local ∨ d.scope.names.lookup x = some .cell)
    (hk : d.scope.kind = .function) (hco : d.scope.isCoroutine = false) (hgen : d.scope.isGenerator = false)
    (body : ∀ (w : World) (s₀ s₁ s : Shared) (mg mb : Str → Option Value) (fa : Addr) (o : Obj) (pm cd doc : Value) (a : Addr) (vs : List Value) (ns : List Int),
      Ground q loose [] XP w s₀ mg mb s₁.heap → YP w s₁.heap →
      s₁.heap.get? fa = some o → o.data = .func (docDef d.name d.params d.body d.scope pm cd doc) → s₁.heap.CodeRec cd d.name → mg d.name = some (.ref fa) →
      s₁.heap.get? a = some { cls := .type "list", data := .seq vs.toArray } → IntsAre vs ns → ns.length ≤ n →
      s.gens = #[] → s.os = s₁.os →
      Fr s₁.heap s₁.heap.objs.size s.heap (bindL (envOfC d.name d.scope s₁.heap.objs.size fa cd).kindOf [(x, .ref a)] fun _ => none) →
      Cl s₁.heap.objs.size (cellsFrom (s₁.heap.objs.size + 1) d.scope.names []) s.heap (bindC (envOfC d.name d.scope s₁.heap.objs.size fa cd).kindOf [(x, .ref a)] fun _ => none) →
      wpAny (model l.prog w) (callerA.deeper (envOfC d.name d.scope s₁.heap.objs.size fa cd)) (execs d.body (envOfC d.name d.scope s₁.heap.objs.size fa cd))
        (fun f s' => f = .ret (.bool true) ∧ (∀ b o, s₁.heap.get? b = some o → s'.heap.get? b = some o) ∧ s'.os = s₁.os ∧ s'.gens = #[]) (fun _ _ => False) s) :
    WalkN q loose XP YP l.row.toRowW d [] (fun f vs => PySem.call f vs) := by
  intro w s₀ s₁ mg mb G Y fa o pm cd doc dV kV ho hd hcd hD hmg hg args vals as hpre hlay hrd hwl hlo
  obtain rfl : dV = .none := Dflts.none hD hdf
  obtain rfl : kV = .none := Dflts.noKw hD
  obtain ⟨a, vs, ns, rfl, rfl, hobj, hints, hlen⟩ := script_of hn hpre hwl
  refine enter_callW ?_
  refine call_cells_ret (o := o) (by rw [depth_caller]; decide) ho (fd_plain hd) G.T.nolimit hcd (hbind pm cd doc (.ref a)) (fun y hy => ?_) (fun h₁ tk F X => ?_) hco hgen hk
  · obtain rfl : y = (x, Value.ref a) := List.mem_singleton.mp hy
    rcases hx with e | e
    · exact .inl e
    · exact .inr ⟨e, cellsFrom_some _ _ _ (.inl e)⟩
  · refine wpAny_mono (body w s₀ s₁ { s₁ with heap := h₁, toks := tk } mg mb fa o pm cd doc a vs ns G Y ho (fd_plain hd) hcd hmg hobj hints hlen hg rfl F X) (fun f s' hq => ?_) (fun _ _ hq => hq)
    obtain ⟨rfl, h2, h3, h4⟩ := hq
    exact ⟨.inl ⟨.bool true, .bool true, [], rfl, fun _ => rfl, .bool true, post_true l _, fun _ => ⟨List.Pairwise.nil, fun _ hm => (nomatch hm)⟩⟩, h2, h3, h4⟩

/-! ### rules over ANY heap (no ledger) from facts about the written part K: the library's own take a ledger (News) for what they write -/
section
variable {prog : Program} {w : World} {A : Around} {E : Value → Shared → Prop} {s : Shared} {K : Frag}

/-- a def of the module, or a method (qual 'C.m'), entered: the frame is the next address; cells behind it -/
theorem call_fn {R : Result → Shared → Prop} {name qual : Str} {params : Arguments} {body : List Stmt} {scope : Scope} {dV kV doc pm cdv ct oc : Value} {an od : Option Addr} {osl : Array (Option Value)} {f : Addr} {args : Args} {binds : List (Str × Value)}
    (X : K.In s.heap) (hlim : s.heap.NoLimit) (ho : K.lookup f = some ⟨oc, od, .func (fnOf name qual params body scope dV kV doc pm an cdv ct), osl⟩) (hcd : codeIn K cdv qual = true) (hroom : A.depth < recursionLimit)
    (hbind : BindsTo s (fnOf name qual params body scope dV kV doc pm an cdv ct) args binds)
    (hkind : (binds.all fun y => scope.names.lookup y.1 == some .local || scope.names.lookup y.1 == some .cell) = true)
    (h : ∀ s₁, InCallC s s.heap.objs.size (bindL (envOfC qual scope s.heap.objs.size f cdv).kindOf binds fun _ => none) (cellsFrom (s.heap.objs.size + 1) scope.names [])
        (bindC (envOfC qual scope s.heap.objs.size f cdv).kindOf binds fun _ => none) s₁ →
      wpAny (model prog w) (A.deeper (envOfC qual scope s.heap.objs.size f cdv)) (execs body (envOfC qual scope s.heap.objs.size f cdv))
        (fun fl s' => R (.ok (.ret (match fl with | .ret v => v | _ => .none))) s')
        (fun e s' => wpAny (model prog w) (A.deeper (envOfC qual scope s.heap.objs.size f cdv)) (leaving (envOfC qual scope s.heap.objs.size f cdv) e) (fun _ s'' => R (.error e) s'') (fun e' s'' => R (.error e') s'') s') s₁)
    (hco : scope.isCoroutine = false) (hgen : scope.isGenerator = false) (hk : scope.kind = .function) : codeAny (model prog w) A (.call (.ref f) args) R s := by
  refine codeAny_call_function hroom (X _ _ ho) rfl hco hgen rfl (codeRec_of X hcd) (hbind _ _ _ _ ?_)
  refine wpAny_newFunctionEnv_cells hk (kindsX hkind _) fun env he s₁ x => ?_
  subst he
  exact ⟨hlim.keeps x.toInCall.keep, codeAny_func (h s₁ x)⟩

/-- C(..): dict at size, instance at size + 1, then __init__ -/
theorem make_obj {R : Result → Shared → Prop} {C fI : Addr} {rest : List Value} {kw : List (Str × Value)}
    (X : K.In s.heap) (hm : makesIn K C = true) (hi : findIn K (.ref C) "__init__" = some (some (.ref fI))) (hf : isFn K (.ref fI) = true)
    (h : codeAny (model prog w) (A.under (.builtin "type.__call__" ⟨.ref C :: rest, kw⟩)) (.call (.ref fI) ⟨.ref (s.heap.objs.size + 1) :: rest, kw⟩) (InitBack (s.heap.objs.size + 1) R)
      { s with heap := (s.heap.push emptyDict).push (instObj C s.heap.objs.size) }) : codeAny (model prog w) A (.call (.ref C) ⟨rest, kw⟩) R s := by
  obtain ⟨hh, g, d, t, os⟩ := s
  exact make_core (makes_of X hm) (looks_findIn X hi) (fun self => bind_fn X self (beq_iff_eq.mp hf)) (.inl rfl) h

/-- x.name where the instance's dict holds the name and the class does not -/
theorem get_field {x C : Addr} {ox : Obj} {es : List DictEntry} {n : Nat} {name : Str} {expr : Bool} {v : Value} {Q : Value → Shared → Prop}
    (X : K.In s.heap) (I : PySem.W.InstAt s.heap x ox C (some (dictOf es n))) (hg : plainGet K C name = true) (hh : hasDictIn K C = true) (ha : findIn K (.ref C) name = some none)
    (hl : getL name es = some (some v)) (hv : handedIn v = true) (h : Q v { s with toks := s.toks + 1 }) : wpAny (model prog w) A (getAttr (.ref x) name expr) Q E s :=
  get_value X I (plainGet_of hg).1 (findObj_own hh ha rfl hl) hv h

/-- x.m(..): the method found in the class -/
theorem get_method {x C f : Addr} {ox : Obj} {es : List DictEntry} {n : Nat} {name : Str} {pl : Sem Bool} {Q : Value × List Value → Shared → Prop}
    (X : K.In s.heap) (I : PySem.W.InstAt s.heap x ox C (some (dictOf es n))) (hg : plainGet K C name = true) (hf : findIn K (.ref C) name = some (some (.ref f))) (ht : isFn K (.ref f) = true)
    (hl : getL name es = some none) (h : Q (.ref f, [.ref x]) s) : wpAny (model prog w) A (getMethod (.ref x) name pl) Q E s :=
  method_fn X I (plainGet_of hg).1 (plainGet_of hg).2 hf (beq_iff_eq.mp ht) (by show (lookIn name (dictOf es n)).map _ = _; rw [lookIn_dict, hl]; rfl) h

/-! the whole heap as the ledger: makes every rule that writes through a ledger a rule over any heap -/
def noObjs (h : Heap) : Heap := { h with objs := #[] }
theorem noObjs_get (h : Heap) (b : Addr) : (noObjs h).get? b = none := by
  cases e : (noObjs h).get? b with
  | none => rfl
  | some o => exact absurd (Heap.lt_size e) (Nat.not_lt_zero _)
def ledger (h : Heap) (L d : Addr) : List (Addr × Obj) := (List.range h.objs.size).filterMap fun a => if a = L ∨ a = d then none else (h.get? a).map fun o => (a, o)
theorem mem_ledger {h : Heap} {L d a : Addr} {o : Obj} : (a, o) ∈ ledger h L d ↔ a ≠ L ∧ a ≠ d ∧ h.get? a = some o := by
  unfold ledger
  rw [List.mem_filterMap]
  constructor
  · rintro ⟨b, _, e⟩
    split at e
    · cases e
    · rename_i hb
      obtain ⟨o', ho, e'⟩ := Option.map_eq_some_iff.mp e
      cases e'
      exact ⟨fun q => hb (.inl q), fun q => hb (.inr q), ho⟩
  · rintro ⟨n1, n2, ho⟩
    refine ⟨a, List.mem_range.mpr (Heap.lt_size ho), ?_⟩
    rw [if_neg (show ¬ (a = L ∨ a = d) from fun q => q.elim n1 n2), ho] <;> rfl
theorem news_ledger {h : Heap} {L d : Addr} {od : Obj} (hne : d ≠ L) (ho : h.get? d = some od) : News (noObjs h) L h ([] ++ (d, od) :: ledger h L d) := by
  rintro ⟨a, o⟩ hp
  rcases List.mem_cons.mp hp with e | hp
  · cases e
    exact ⟨ho, hne, noObjs_get _ _⟩
  · obtain ⟨n1, n2, e⟩ := mem_ledger.mp hp
    exact ⟨e, n1, noObjs_get _ _⟩
theorem fr_all {h : Heap} {L : Addr} {m : Str → Option Value} (n : h.Ns L m) : Fr (noObjs h) L h m :=
  ⟨n, fun b o e => (by rw [noObjs_get] at e; cases e), Nat.zero_le _⟩
/-- Upd of the head entry (for append_K, setItem_K ..) -/
theorem upd_ledger {h : Heap} {L d : Addr} {o o' : Obj} : Upd d o o' ((d, o) :: ledger h L d) ((d, o') :: ledger h L d) :=
  .head fun ⟨_, _⟩ hp => (mem_ledger.mp hp).2.1

/-- x.name = v over any heap: L is any namespace of the heap (the frame's, say): its map stays, its object is not told; all else but the dict stays -/
theorem set_field {x C dx L : Addr} {ox : Obj} {m : Str → Option Value} {es es' : List DictEntry} {n n' : Nat} {name : Str} {v : Value} {Q : Unit → Shared → Prop}
    (X : K.In s.heap) (I : PySem.W.InstAt s.heap x ox C (some (dictOf es n))) (hd : ox.dict = some dx) (hL : s.heap.Ns L m) (hne : dx ≠ L)
    (hs : findIn K (.ref C) "__setattr__" = some (some (.builtin "object.__setattr__"))) (hp : plainOver K C = true) (ht : takerIn K C name = some none) (hh : hasDictIn K C = true) (hl : (getL name es).isSome = true)
    (e : (putL name (PyData.keyHash w.params name) (.str name (s.toks + 1)) v es, putN name es n) = (es', n')) (hz : es'.length ≤ 1000)
    (h : ∀ h' : Heap, h'.Ns L m → h'.get? dx = some (dictOf es' n') → (∀ b o, b ≠ dx → b ≠ L → s.heap.get? b = some o → h'.get? b = some o) → Q () { s with heap := h', toks := s.toks + 2 }) :
    wpAny (model prog w) A (setAttr (.ref x) name v) Q E s := by
  obtain ⟨e1, e2⟩ := Prod.mk.inj e
  have hdx : s.heap.get? dx = some (dictOf es n) := by
    have := I.dict
    rw [hd] at this
    exact this
  refine set_plain X I hs (osa_dict (s := { s with toks := s.toks + 1 }) (h₀ := noObjs s.heap) (L := L) (m := m) (od := dictOf es n) (od' := dictOf es' n') (es := es') (n := n') (pre := []) (post := ledger s.heap L dx)
    (fr_all hL) (news_ledger hne hdx) X I hd hp ht hh hl (fun _ q => nomatch q) (fun ⟨_, _⟩ q => (mem_ledger.mp q).2.1) (by rw [putName_dict, e1, e2]) rfl hz fun h' F' N' => ?_)
  exact h h' F'.ns (N'.get (List.Mem.head _)) fun b o n1 n2 ho => N'.get (List.Mem.tail _ (mem_ledger.mpr ⟨n2, n1, ho⟩))
end
end Att

namespace L2
open PySem PySem.Spec PyProof.Rows

theorem vals_ints : ∀ {vs : List Value} {ns : List Int}, IntsAre vs ns → Vals (ns.map V.int) vs
  | _, _, .nil => .nil
  | _, _, .cons n t h => .cons ⟨t, rfl⟩ (vals_ints h)

/-- nothing is tracked but the script, known to the object (or it is an object of the module) -/
def Only (H : Hp) : Prop := ∀ b, H b = none ∨ ∃ o xs, H b = some (.frz o (.lst xs))

/-- THE HEAD: the law's promise, at the heap behind the top. F, the promise of the law's def, may use that base is part of the heap (so K.In base, base.Ns mainGlobals mg stand in Mod) -/
theorem law_call {P : Program} {w : World} {K : PySem.W.Frag} {mg mb : Str → Option Value} {CX : CXT} {k : Nat} {fa a : Addr} {fd : FuncData} {x : Str} {sp : Sp} {s₁ : Shared} {vs : List Value} {ns : List Int}
    (KX : K.In s₁.heap) (hns : s₁.heap.Ns mainGlobals mg) (hb : s₁.heap.Ns builtinsNs mb) (hbb : ∀ x : Str, x ≠ "__name__" → mb x = bootBuiltins x) (hlim : s₁.heap.NoLimit) (hg : s₁.gens = #[])
    (ha : s₁.heap.get? a = some { cls := .type "list", data := .seq vs.toArray }) (hi : IntsAre vs ns) (hl : ns.length ≤ sizeLine) (hr : Room k callerA)
    (F : ∀ base : Heap, K.In base → base.Ns mainGlobals mg → FnOk P w K mg base CX k fa fd [x] sp) (hbind : ∀ (s : Shared) (u : Value), BindsTo s fd ⟨[u], []⟩ [(x, u)])
    (hsp : ∀ H : Hp, Only H → SqL K H a (ns.map V.int) → sp [.ref a] H (fun v _ => v = .bl true) fun _ _ _ => False)
    (hCX : ∀ H e s', CX [] H s₁ (fun _ _ _ => False) e s' → False) :
    codeAny (model P w) callerA (.call (.ref fa) ⟨[.ref a], []⟩) (fun r s' => r = .ok (.ret (.bool true)) ∧ OldK s₁.heap s'.heap ∧ s'.os = s₁.os ∧ AllBare s'.gens) s₁ := by
  have rv := vals_ints hi
  have lenV := hi.length
  -- from an abstract heap in which nothing but the script may be tracked
  have core : ∀ H : Hp, Only H → SqL K H a (ns.map V.int) → HOk P w H s₁.heap → (∀ b, H b ≠ none → b = a) → (H a ≠ none → K.lookup a = none) →
      codeAny (model P w) callerA (.call (.ref fa) ⟨[.ref a], []⟩) (fun r s' => r = .ok (.ret (.bool true)) ∧ OldK s₁.heap s'.heap ∧ s'.os = s₁.os ∧ AllBare s'.gens) s₁ := by
    intro H hO hS hok hA hK
    have base_of : ∀ {b : Addr} {o : Obj}, s₁.heap.get? b = some o → H b = none → (hidT s₁.heap H).get? b = some o := fun e n => hidT_get e n
    have noA : ∀ {b : Addr} {o : Obj} {es : Array DictEntry} {ep : Nat}, s₁.heap.get? b = some o → o.data = .dict es ep → H b = none := fun {b o es ep} e d => by
      cases q : H b with
      | none => rfl
      | some u =>
        have e' : b = a := hA b (by rw [q]; simp)
        subst e'
        rw [ha] at e; cases e
        have d' : Data.seq vs.toArray _ = Data.dict es ep := d
        cases d'
    have nsK : ∀ {b : Addr} {m : Str → Option Value}, s₁.heap.Ns b m → (hidT s₁.heap H).Ns b m := fun {b m} ⟨o, es, ep, e, d, r⟩ => ⟨o, es, ep, base_of e (noA e d), d, r⟩
    have hKb : K.In (hidT s₁.heap H) := fun b o e => base_of (KX b o e) (by
      cases q : H b with
      | none => rfl
      | some u =>
        have e' : b = a := hA b (by rw [q]; simp)
        subst e'
        rw [hK (by rw [q]; simp)] at e; cases e)
    have hM : Mod K mg (hidT s₁.heap H) := ⟨hKb, nsK hns, ⟨mb, nsK hb, hbb⟩, let ⟨mc, h1, h2⟩ := hlim; ⟨mc, nsK h1, h2⟩⟩
    have e0 : Env0 P w K mg (hidT s₁.heap H) callerA [] s₁ H := ⟨rfl, hM, fun b o e => of_hidT e, Nat.le_of_eq (hidT_size _ _), trivial, fun b hb => absurd (show b ∈ ([] : List Addr) from hb) (by simp), hok, .of_eq hg⟩
    refine codeAny_mono ((F _ hKb (nsK hns)).run callerA [] s₁ H ⟨[.ref a], []⟩ [.ref a] [.ref a] _ _ hr e0 (hbind s₁ (.ref a)) (.cons rfl .nil) (hsp H hO hS)) fun r s' h => ?_
    cases r with
    | error e => exact (hCX H e s' h).elim
    | ok fl =>
      cases fl with
      | next => exact False.elim h
      | brk => exact False.elim h
      | cont => exact False.elim h
      | ret u =>
        obtain ⟨v, H', os, bare, un, hok', r', q⟩ := h
        have q' : v = .bl true := q
        subst q'
        obtain rfl : u = Value.bool true := r'
        refine ⟨rfl, OldK.of_keep fun b o e => ?_, os, bare⟩
        cases q : H b with
        | none => exact un.keep b o e q (by intro z; exact absurd (show b ∈ ([] : List Addr) from z) (by simp)) (by simp)
        | some u =>
          rcases hO b with z | ⟨ob, xs, z⟩
          · rw [q] at z; cases z
          · have z2 := un.frzs b ob _ z
            obtain ⟨e1, _⟩ := hok b _ z
            obtain ⟨e2, _⟩ := hok' b _ z2
            rw [e] at e1; cases e1
            exact e2
  cases hk : K.lookup a with
  | some o =>
    -- the script is one of the module's own objects
    have e := KX a o hk
    rw [ha] at e
    cases e
    refine core (fun _ => none) (fun _ => .inl rfl) (.inr ⟨_, vs.toArray, _, hk, rfl, rfl, rfl, by rw [List.size_toArray, lenV]; exact hl, by simpa using rv⟩) (fun b u z => by have z' : (none : Option HO) = some u := z; cases z') (fun b z => absurd rfl z) fun z => absurd rfl z
  | none =>
    refine core (fun b => if b = a then some (.frz { cls := .type "list", data := .seq vs.toArray } (.lst (ns.map V.int))) else none) (fun b => ?_) (.inl (.inr ⟨{ cls := .type "list", data := .seq vs.toArray }, if_pos rfl⟩)) (fun b u z => ?_) (fun b z => ?_) fun _ => hk
    · by_cases hb : b = a
      · exact .inr ⟨_, _, if_pos hb⟩
      · exact .inl (if_neg hb)
    · by_cases hb : b = a
      · have z' := (if_pos hb).symm.trans z
        cases z'
        subst hb
        exact ⟨ha, by rw [List.length_map]; exact hl, vs, _, rv, ha⟩
      · have z' := (if_neg hb).symm.trans z
        cases z'
    · by_cases hb : b = a
      · exact hb
      · exact absurd (if_neg hb) z
end L2

namespace L2
open PySem PySem.Spec PyProof.Rows

abbrev KOf {K : PySem.W.Frag} {h : Heap} (_ : K.In h) : PySem.W.Frag := K

/-- the goal that k_head leaves (case hc), from the law's promise. F gives the function object fd (K's own) once, then the promise over every base -/
theorem walk_of {l : PySem.W.OpenLaw} {n k : Nat} {q : Program} {loose : List Str} {XP : (Str → Option Value) → Heap → Prop} {YP : World → Heap → Prop} {d : DefRec} {K : Params → PySem.W.Frag} {CX : World → CXT} {sp : World → Sp} {x : Str}
    (hn : l.most = some n) (hn2 : n ≤ sizeLine) (hdf : d.params.defaults = []) (hr : Room k callerA)
    (hY : ∀ (w : World) (h : Heap), YP w h → (K w.params).In h)
    (F : ∀ (w : World) (mg : Str → Option Value) (fa : Addr) (h : Heap), (K w.params).In h → h.Ns mainGlobals mg → mg d.name = some (.ref fa) →
      ∃ fd : FuncData, (∀ (s : Shared) (u : Value), BindsTo s fd ⟨[u], []⟩ [(x, u)]) ∧
        ∀ base : Heap, (K w.params).In base → base.Ns mainGlobals mg → FnOk l.prog w (K w.params) mg base (CX w) k fa fd [x] (sp w))
    (hsp : ∀ (w : World) (H : Hp) (a : Addr) (ns : List Int), ns.length ≤ n → Only H → SqL (K w.params) H a (ns.map V.int) → sp w [.ref a] H (fun v _ => v = .bl true) fun _ _ _ => False)
    (hCX : ∀ (w : World) (H : Hp) (s : Shared) (e : Value) (s' : Shared), CX w [] H s (fun _ _ _ => False) e s' → False) :
    PySem.W.WalkO q loose XP YP l.row.toRowW d [] (fun f vs => PySem.call f vs) := by
  refine Att.attach_call hn hdf fun w s₀ s₁ mg mb fa o pm cd doc a vs ns G Y ho hd hcd hmg hobj hints hlen hg => ?_
  have KX := hY w _ Y
  obtain ⟨fd, hb, hF⟩ := F w mg fa _ KX G.T.g hmg
  exact law_call KX G.T.g G.T.b G.T.builtins G.T.nolimit hg hobj hints (Nat.le_trans hlen hn2) hr hF hb (fun H hO hS => hsp w H a ns hlen hO hS) fun H e s' => hCX w H s₁ e s'
/-- the same where the promise hangs on the written part alone: (sp := My.sp_law), no hole under a binder -/
theorem walk_ofK {l : PySem.W.OpenLaw} {n k : Nat} {q : Program} {loose : List Str} {XP : (Str → Option Value) → Heap → Prop} {YP : World → Heap → Prop} {d : DefRec} {K : Params → PySem.W.Frag} {CX : CXT} {sp : PySem.W.Frag → Sp} {x : Str}
    (hn : l.most = some n) (hn2 : n ≤ sizeLine) (hdf : d.params.defaults = []) (hr : Room k callerA)
    (hY : ∀ (w : World) (h : Heap), YP w h → (K w.params).In h)
    (F : ∀ (w : World) (mg : Str → Option Value) (fa : Addr) (h : Heap), (K w.params).In h → h.Ns mainGlobals mg → mg d.name = some (.ref fa) →
      ∃ fd : FuncData, (∀ (s : Shared) (u : Value), BindsTo s fd ⟨[u], []⟩ [(x, u)]) ∧
        ∀ base : Heap, (K w.params).In base → base.Ns mainGlobals mg → FnOk l.prog w (K w.params) mg base CX k fa fd [x] (sp (K w.params)))
    (hsp : ∀ (K : PySem.W.Frag) (H : Hp) (a : Addr) (ns : List Int), ns.length ≤ n → Only H → SqL K H a (ns.map V.int) → sp K [.ref a] H (fun v _ => v = .bl true) fun _ _ _ => False)
    (hCX : ∀ (H : Hp) (s : Shared) (e : Value) (s' : Shared), CX [] H s (fun _ _ _ => False) e s' → False) :
    PySem.W.WalkO q loose XP YP l.row.toRowW d [] (fun f vs => PySem.call f vs) :=
  walk_of (K := K) (CX := fun _ => CX) (sp := fun w => sp (K w.params)) hn hn2 hdf hr hY F (fun w H a ns h1 h2 h3 => hsp (K w.params) H a ns h1 h2 h3) fun _ H s e s' => hCX H s e s'
end L2

/- THE LAST THEOREM (shape; LID, My.* are yours):
   My.Adr: a structure of the addresses that your layer names (classes, functions); My.Txt K t: a structure (Prop) of the equations over K;
   My.txt_mk : {K} {implicit addresses ..} (e1 : nsIn K mainGlobals "law" = some (some (.ref f))) (e2 : K.lookup f = some ⟨oc, od, .func (fnOf "law" "law" params body scope dV kV doc pm an cdv ct), sl⟩) (e3 : codeIn K cdv "law" = true) .. : ∃ t, My.Txt K t

set_option maxRecDepth 100000 in
set_option maxHeartbeats 0 in
theorem PySem.Challenge.cw_LID_holds : PySem.Challenge.rw_LID.Holds := by
  w_on; o_law; k_head; (case hw => w_witness2)
  k_fill
  refine L2.walk_of (l := PySem.Challenge.rw_LID) (n := 63) (k := 40) (x := "script") (CX := fun w => ..) (sp := fun _ => My.sp_law) rfl (by decide) rfl ⟨rfl, by decide, by decide⟩ (fun w h Y => PySem.W.kIn_of Y) ?F ?S ?C
  case F =>
    intro w mg fa h KX G hmg
    have T : ∃ t, My.Txt (L2.KOf KX) t := by
      dsimp only [L2.KOf]                          -- K must stand as «<heap const> w.params» for k_is
      refine' My.txt_mk ?e1 ?e2 ?e3 ..
      (case e1 => PySem.W.k_is)                    -- in the order: a name -> its address -> its object -> its parts
      (case e2 => PySem.W.k_is)
      ..
    obtain ⟨t, T⟩ := T
    have e0 := hmg.symm.trans (PySem.W.mg_of KX G T.law)
    cases e0                                       -- fa is the law's own address
    exact ⟨_, fun s u => .of_eq rfl, fun base kb nb => My.law_fn T kb nb⟩     -- if «.of_eq rfl» comes too early: refine' ⟨_, ?b, fun base kb nb => My.law_fn T kb nb⟩; exact fun s u => .of_eq rfl
  case S => exact fun w H a ns hl hO hS => ..
  case C => exact ..
(the tactic k_is has no namespace: write k_is) -/

/-! SHORT WORDS over the layer: a def of the text, its body, what a loop and a test want. -/
namespace L2
open PySem PySem.Spec PyProof.Rows

/-! ### the text by places -/
/-- the j-th statement of a class's body -/
def inClass (s : Stmt) (j : Nat) : Stmt := match s with
  | .ClassDef _ _ _ body _ _ _ _ _ _ _ => body.getD j (.Pass ⟨0, 0, 0, 0⟩)
  | _ => .Pass ⟨0, 0, 0, 0⟩
def defArgs (s : Stmt) : Arguments := match s with
  | .FunctionDef _ a _ _ _ _ _ _ _ _ => a
  | _ => { posonlyargs := [], args := [], vararg := none, kwonlyargs := [], kw_defaults := [], kwarg := none, defaults := [] }
def defBody (s : Stmt) : List Stmt := match s with
  | .FunctionDef _ _ b _ _ _ _ _ _ _ => b
  | _ => []
def defScope (s : Stmt) : Scope := match s with
  | .FunctionDef _ _ _ _ _ _ sc _ _ _ => sc
  | _ => { kind := .function, names := [], isGenerator := false, isCoroutine := false }

/-! ### no exception leaves a def -/
abbrev CX0 : CXT := fun _ _ _ _ _ _ => False
abbrev E0 : XK := fun _ _ _ => False
theorem pass0 {X : Cx} : Passes CX0 X E0 := fun _ _ _ _ _ _ _ h => h.elim

/-! ### a def (or method) of the text as it stands behind the top -/
structure Fun (K : PySem.W.Frag) (x qual : Str) (st : Stmt) (f : Addr) (fd : FuncData) : Prop where
  ex : ∃ (oc : Value) (od : Option Addr) (kV doc pm : Value) (an : Option Addr) (cdv ct : Value) (osl : Array (Option Value)),
    fd = PySem.W.fnOf x qual (defArgs st) (defBody st) (defScope st) .none kV doc pm an cdv ct ∧ K.lookup f = some ⟨oc, od, .func fd, osl⟩ ∧ PySem.W.codeIn K cdv qual = true
  kp : PySem.W.keepIn K (.ref f) = true
section
variable {P : Program} {w : World} {K : PySem.W.Frag} {mg : Str → Option Value} {base : Heap}
/-- THE RULE for a def: its body as a term of rules, and the reading of that term -/
theorem Fun.ok {x qual : Str} {st : Stmt} {f : Addr} {fd : FuncData} {N ps : List Str} {k : Nat} {sp : Sp} (F : Fun K x qual st f fd) (S : FnScope N ps (defScope st)) (len : ∀ vs H Q E, sp vs H Q E → vs.length = ps.length)
    (hbody : ∀ (cdv : Value) (A : Around) (outer : List Env) (s : Shared) (H : Hp) (vs : List V) (Q : VK) (E : XK), Room k (A.deeper (envOfC qual (defScope st) s.heap.objs.size f cdv)) → sp vs H Q E →
      ∃ t, PSs (cxOf CX0 P w K mg base N qual (defScope st) f cdv A outer s H E).nox (defBody st) t ∧ t { nx := fun _ H' => Q .non H', rt := Q } (start N vs) H) : FnOk P w K mg base CX0 (k + 1) f fd ps sp := by
  obtain ⟨oc, od, kV, doc, pm, an, cdv, ct, osl, rfl, lk, hcd⟩ := F.ex
  refine fn_of lk hcd S len fun A outer s H vs Q E hr hsp => ?_
  obtain ⟨t, h, q⟩ := hbody cdv A outer s H vs Q E hr hsp
  exact ⟨t, h.nox, q⟩
/-- how its arguments bind (no defaults): h is «fun _ _ _ _ _ _ us hl => match us, hl with | [_, _], _ => rfl», one _ a parameter -/
theorem Fun.binds {x qual : Str} {st : Stmt} {f : Addr} {fd : FuncData} {ps : List Str} (F : Fun K x qual st f fd)
    (h : ∀ (kV doc pm : Value) (an : Option Addr) (cdv ct : Value) (us : List Value), us.length = ps.length → bindArgs (PySem.W.fnOf x qual (defArgs st) (defBody st) (defScope st) .none kV doc pm an cdv ct) ⟨us, []⟩ = pure (ps.zip us)) : Binds K fd ps [] := by
  obtain ⟨oc, od, kV, doc, pm, an, cdv, ct, osl, rfl, lk, hcd⟩ := F.ex
  exact .all (h kV doc pm an cdv ct)
theorem fun_mk {x qual : Str} {st : Stmt} {f : Addr} {oc : Value} {od an : Option Addr} {osl : Array (Option Value)} {kV doc pm cdv ct : Value} (l : K.lookup f = some ⟨oc, od, .func (PySem.W.fnOf x qual (defArgs st) (defBody st) (defScope st) .none kV doc pm an cdv ct), osl⟩)
    (c : PySem.W.codeIn K cdv qual = true) (k : PySem.W.keepIn K (.ref f) = true) : Fun K x qual st f (PySem.W.fnOf x qual (defArgs st) (defBody st) (defScope st) .none kV doc pm an cdv ct) := ⟨⟨oc, od, kV, doc, pm, an, cdv, ct, osl, rfl, l, c⟩, k⟩
end
theorem hu_of {A : Around} {k : Nat} (hr : Room k A) : A.units + 1 < cLine := Nat.lt_of_le_of_lt (Nat.add_le_add_left (by decide : 1 ≤ 64) _) hr.units
theorem small1000 {n : Nat} (h : n ≤ 1000) : n < sizeLine := Nat.lt_of_le_of_lt h (by decide)

/-! ### expressions in short: the name that stands in the i-th slot -/
section
variable {X : Cx}
theorem pv (i : Nat) {x : Str} {pos : Pos} (hN : X.N[i]? = some x := by rfl) (hv : Vis X.env.scope x := by first | exact Or.inl rfl | exact Or.inr (Or.inl rfl) | exact Or.inr (Or.inr rfl)) (hd : (x == ("__debug__" : Str)) = false := by decide)
    (hcd : (x == ("__classdict__" : Str)) = false := by decide) : PE X (.Name x pos) (tVar i) := pe_var hN hv hd hcd
end

/-! ### tests -/
theorem iteF {A B : Prop} (h : B) : if false = true then A else B := by
  rw [if_neg Bool.false_ne_true]
  exact h
theorem iteT {A B : Prop} (h : A) : if true = true then A else B := by
  rw [if_pos rfl]
  exact h
theorem ite2 {c A B : Prop} [Decidable c] (h1 : c → A) (h2 : ¬ c → B) : if c then A else B := by
  by_cases h : c
  · rw [if_pos h]
    exact h1 h
  · rw [if_neg h]
    exact h2 h
theorem iteNS {c A B : Prop} [Decidable c] (hc : c) (h : B) : if (!decide c) = true then A else B := by
  rw [decide_eq_true hc]
  exact iteF h

/-! ### heaps -/
/-- all that was tracked is as it was -/
def Same (H H' : Hp) : Prop := ∀ b o, H b = some o → H' b = some o
theorem Same.refl (H : Hp) : Same H H := fun _ _ h => h
theorem Same.trans {H H1 H2 : Hp} (a : Same H H1) (b : Same H1 H2) : Same H H2 := fun c o h => b c o (a c o h)
theorem Same.free {H H' : Hp} (e : Same H H') {l : Addr} (h : H' l = Option.none) : H l = Option.none := by
  cases q : H l with
  | none => rfl
  | some o =>
    rw [e l o q] at h
    cases h
theorem Same.seq {K : PySem.W.Frag} {H H' : Hp} {a : Addr} {xs : List V} (e : Same H H') (h : SqL K H a xs) : SqL K H' a xs := by
  rcases h with (h | ⟨o, h⟩) | h
  · exact .inl (.inl (e _ _ h))
  · exact .inl (.inr ⟨o, e _ _ h⟩)
  · exact .inr h

end L2

namespace Rope
/-! moments: (t, k) stands for t / 2 ^ k hours -/
abbrev M := Int × Nat
def lowN : Int → Nat → M
  | t, 0 => (t, 0)
  | t, k + 1 => if t % 2 = 0 then lowN (t / 2) k else (t, k + 1)
def Canon (m : M) : Prop := m.2 = 0 ∨ m.1 % 2 = 1
theorem pow_pos (k : Nat) : (0 : Int) < 2 ^ k := Int.pow_pos (by decide)
theorem pow_ge1 (k : Nat) : (1 : Int) ≤ 2 ^ k := pow_pos k
theorem pow_le {a b : Nat} (h : a ≤ b) : (2 : Int) ^ a ≤ 2 ^ b := by
  obtain ⟨c, rfl⟩ := Nat.exists_eq_add_of_le h
  rw [Int.pow_add]
  have h1 := Int.mul_le_mul_of_nonneg_left (pow_ge1 c) (Int.le_of_lt (pow_pos a))
  rw [Int.mul_one] at h1
  exact h1
theorem lowN_canon : ∀ (k : Nat) (t : Int), Canon (lowN t k)
  | 0, t => Or.inl rfl
  | k + 1, t => by
    unfold lowN
    by_cases h : t % 2 = 0
    · rw [if_pos h]; exact lowN_canon k _
    · rw [if_neg h]; exact Or.inr (by show t % 2 = 1; omega)
theorem lowN_le : ∀ (k : Nat) (t : Int), (lowN t k).2 ≤ k
  | 0, t => Nat.le_refl _
  | k + 1, t => by
    unfold lowN
    by_cases h : t % 2 = 0
    · rw [if_pos h]; exact Nat.le_succ_of_le (lowN_le k _)
    · rw [if_neg h]; exact Nat.le_refl _
theorem lowN_two (t : Int) (k : Nat) : lowN (2 * t) (k + 1) = lowN t k := by
  rw [lowN, if_pos (by omega)]
  have : 2 * t / 2 = t := by omega
  rw [this]
theorem lowN_mul (t : Int) (k : Nat) : ∀ j : Nat, lowN (t * 2 ^ j) (k + j) = lowN t k
  | 0 => by simp
  | j + 1 => by
    have e : t * 2 ^ (j + 1) = 2 * (t * 2 ^ j) := by rw [Int.pow_succ]; grind
    rw [e, ← Nat.add_assoc, lowN_two, lowN_mul t k j]
theorem lowN_eq {t u : Int} {k l : Nat} (h : t * 2 ^ l = u * 2 ^ k) : lowN t k = lowN u l := by
  rw [← lowN_mul t k l, ← lowN_mul u l k, h, Nat.add_comm]
theorem lowN_val : ∀ (k : Nat) (t : Int), (lowN t k).1 * 2 ^ k = t * 2 ^ (lowN t k).2
  | 0, t => rfl
  | k + 1, t => by
    unfold lowN
    by_cases h : t % 2 = 0
    · rw [if_pos h]
      have e := lowN_val k (t / 2)
      have h2 : t = 2 * (t / 2) := by omega
      rw [Int.pow_succ]
      generalize lowN (t / 2) k = r at e ⊢
      generalize t / 2 = q at e h2
      subst h2
      grind
    · rw [if_neg h]
theorem lowN_self {m : M} (h : Canon m) : lowN m.1 m.2 = m := by
  obtain ⟨t, k⟩ := m
  cases k with
  | zero => rfl
  | succ k =>
    rcases h with h | h
    · exact absurd h (by simp)
    · unfold lowN
      have h' : t % 2 = 1 := h
      show (if t % 2 = 0 then lowN (t / 2) k else (t, k + 1)) = (t, k + 1)
      rw [if_neg (by omega)]
theorem lowN_nonneg : ∀ (k : Nat) (t : Int), 0 ≤ t → 0 ≤ (lowN t k).1 ∧ (lowN t k).1 ≤ t
  | 0, t, h => ⟨h, Int.le_refl _⟩
  | k + 1, t, h => by
    unfold lowN
    by_cases e : t % 2 = 0
    · rw [if_pos e]
      have := lowN_nonneg k (t / 2) (by omega)
      exact ⟨this.1, by omega⟩
    · rw [if_neg e]; exact ⟨h, Int.le_refl _⟩
theorem lowN_zero : ∀ k : Nat, lowN 0 k = (0, 0)
  | 0 => rfl
  | k + 1 => by rw [lowN, if_pos (by decide)]; exact lowN_zero k
theorem canon_eq {m n : M} (hm : Canon m) (hn : Canon n) (h : m.1 * 2 ^ n.2 = n.1 * 2 ^ m.2) : m = n := by
  rw [← lowN_self hm, ← lowN_self hn]; exact lowN_eq h

def addM (m n : M) : M := lowN (m.1 * 2 ^ n.2 + n.1 * 2 ^ m.2) (m.2 + n.2)
def halfM (m : M) : M := lowN m.1 (m.2 + 1)
def hourM (m : M) : M := addM m (1, 0)
def meanM (m n : M) : M := halfM (addM (addM m n) (1, 0))
def lessM (m n : M) : Bool := decide (m.1 * 2 ^ n.2 < n.1 * 2 ^ m.2)
def gapM (m n : M) : M := if lessM m n = true then lowN (n.1 * 2 ^ m.2 - m.1 * 2 ^ n.2) (m.2 + n.2) else lowN (m.1 * 2 ^ n.2 - n.1 * 2 ^ m.2) (m.2 + n.2)

theorem add_one (A : Int) (p : Nat) : addM (lowN A p) (1, 0) = lowN (A + 2 ^ p) p := by
  have e := lowN_val p A
  have c := lowN_canon p A
  unfold addM
  generalize lowN A p = r at e ⊢
  refine lowN_eq ?_
  show (r.1 * 2 ^ 0 + 1 * 2 ^ r.2) * 2 ^ p = (A + 2 ^ p) * 2 ^ (r.2 + 0)
  rw [Nat.add_zero, Int.pow_zero]
  grind
theorem half_low (A : Int) (p : Nat) : halfM (lowN A p) = lowN A (p + 1) := by
  have e := lowN_val p A
  unfold halfM
  generalize lowN A p = r at e ⊢
  refine lowN_eq ?_
  rw [Int.pow_succ, Int.pow_succ]
  grind
/-- the program's way over the greater bottom -/
def overM (m : M) (K : Nat) : Int := m.1 * 2 ^ (K - m.2)
theorem mean_prog (m n : M) : lowN (overM m (max m.2 n.2) + overM n (max m.2 n.2) + 2 ^ (max m.2 n.2)) (max m.2 n.2 + 1) = meanM m n := by
  unfold meanM
  rw [show addM m n = lowN (m.1 * 2 ^ n.2 + n.1 * 2 ^ m.2) (m.2 + n.2) from rfl, add_one, half_low]
  refine lowN_eq ?_
  unfold overM
  have h1 : (2 : Int) ^ (max m.2 n.2) = 2 ^ (max m.2 n.2 - m.2) * 2 ^ m.2 := by rw [← Int.pow_add]; congr 1; omega
  have h2 : (2 : Int) ^ (max m.2 n.2) = 2 ^ (max m.2 n.2 - n.2) * 2 ^ n.2 := by rw [← Int.pow_add]; congr 1; omega
  rw [Int.pow_succ, Int.pow_succ, Int.pow_add]
  generalize (2 : Int) ^ (max m.2 n.2) = K at h1 h2 ⊢
  generalize (2 : Int) ^ (max m.2 n.2 - m.2) = c at h1 ⊢
  generalize (2 : Int) ^ (max m.2 n.2 - n.2) = d at h2 ⊢
  generalize (2 : Int) ^ m.2 = a at h1 h2 ⊢
  generalize (2 : Int) ^ n.2 = b at h1 h2 ⊢
  grind
theorem hour_prog (m : M) : lowN (m.1 + 2 ^ m.2) m.2 = hourM m := by
  unfold hourM addM
  show _ = lowN (m.1 * 2 ^ 0 + 1 * 2 ^ m.2) (m.2 + 0)
  rw [Int.pow_zero, Int.mul_one, Int.one_mul, Nat.add_zero]
theorem less_prog (m n : M) : decide (overM m (max m.2 n.2) < overM n (max m.2 n.2)) = lessM m n := by
  unfold lessM overM
  have h1 : (2 : Int) ^ (max m.2 n.2) = 2 ^ (max m.2 n.2 - m.2) * 2 ^ m.2 := by rw [← Int.pow_add]; congr 1; omega
  have h2 : (2 : Int) ^ (max m.2 n.2) = 2 ^ (max m.2 n.2 - n.2) * 2 ^ n.2 := by rw [← Int.pow_add]; congr 1; omega
  have pa := pow_pos m.2
  have pb := pow_pos n.2
  have pK := pow_pos (max m.2 n.2)
  generalize (2 : Int) ^ (max m.2 n.2) = K at h1 h2 pK ⊢
  generalize (2 : Int) ^ (max m.2 n.2 - m.2) = c at h1 ⊢
  generalize (2 : Int) ^ (max m.2 n.2 - n.2) = d at h2 ⊢
  generalize (2 : Int) ^ m.2 = a at h1 h2 pa ⊢
  generalize (2 : Int) ^ n.2 = b at h1 h2 pb ⊢
  generalize m.1 = t
  generalize n.1 = u
  have e1 : (t * c) * (a * b) = (t * b) * K := by grind
  have e2 : (u * d) * (a * b) = (u * a) * K := by grind
  have pab : 0 < a * b := Int.mul_pos pa pb
  refine decide_eq_decide.mpr ⟨fun h => ?_, fun h => ?_⟩
  · have h3 := Int.mul_lt_mul_of_pos_right h pab
    rw [e1, e2] at h3
    exact Int.lt_of_mul_lt_mul_right h3 (Int.le_of_lt pK)
  · have h3 := Int.mul_lt_mul_of_pos_right h pK
    rw [← e1, ← e2] at h3
    exact Int.lt_of_mul_lt_mul_right h3 (Int.le_of_lt pab)
theorem gap_prog (m n : M) : lowN (if overM m (max m.2 n.2) - overM n (max m.2 n.2) < 0 then -(overM m (max m.2 n.2) - overM n (max m.2 n.2)) else overM m (max m.2 n.2) - overM n (max m.2 n.2)) (max m.2 n.2) = gapM m n := by
  have hl := less_prog m n
  unfold gapM
  rw [← hl]
  unfold overM
  have h1 : (2 : Int) ^ (max m.2 n.2) = 2 ^ (max m.2 n.2 - m.2) * 2 ^ m.2 := by rw [← Int.pow_add]; congr 1; omega
  have h2 : (2 : Int) ^ (max m.2 n.2) = 2 ^ (max m.2 n.2 - n.2) * 2 ^ n.2 := by rw [← Int.pow_add]; congr 1; omega
  by_cases hc : m.1 * 2 ^ (max m.2 n.2 - m.2) < n.1 * 2 ^ (max m.2 n.2 - n.2)
  · rw [if_pos (by omega), if_pos (decide_eq_true hc)]
    refine lowN_eq ?_
    rw [Int.pow_add]
    generalize (2 : Int) ^ (max m.2 n.2) = K at h1 h2 ⊢
    generalize (2 : Int) ^ (max m.2 n.2 - m.2) = c at h1 ⊢
    generalize (2 : Int) ^ (max m.2 n.2 - n.2) = d at h2 ⊢
    generalize (2 : Int) ^ m.2 = a at h1 h2 ⊢
    generalize (2 : Int) ^ n.2 = b at h1 h2 ⊢
    grind
  · rw [if_neg (by omega), if_neg (by simpa using hc)]
    refine lowN_eq ?_
    rw [Int.pow_add]
    generalize (2 : Int) ^ (max m.2 n.2) = K at h1 h2 ⊢
    generalize (2 : Int) ^ (max m.2 n.2 - m.2) = c at h1 ⊢
    generalize (2 : Int) ^ (max m.2 n.2 - n.2) = d at h2 ⊢
    generalize (2 : Int) ^ m.2 = a at h1 h2 ⊢
    generalize (2 : Int) ^ n.2 = b at h1 h2 ⊢
    grind

/-! an odd part and the twos in it -/
theorem odd_part : ∀ (n : Nat) (t : Int), t.natAbs ≤ n → t ≠ 0 → ∃ (j : Nat) (a : Int), t = 2 ^ j * (2 * a + 1)
  | 0, t, h, h0 => absurd (by omega) h0
  | n + 1, t, h, h0 => by
    by_cases e : t % 2 = 0
    · obtain ⟨j, a, ha⟩ := odd_part n (t / 2) (by omega) (by omega)
      refine ⟨j + 1, a, ?_⟩
      have h2 : t = 2 * (t / 2) := by omega
      rw [Int.pow_succ]
      generalize t / 2 = q at h2 ha
      subst h2 ha
      grind
    · exact ⟨0, t / 2, by rw [Int.pow_zero]; omega⟩
theorem low_odd (j k : Nat) (a : Int) : lowN (2 ^ j * (2 * a + 1)) k = (2 ^ (j - min j k) * (2 * a + 1), k - min j k) := by
  have e : (2 : Int) ^ j * (2 * a + 1) = (2 ^ (j - min j k) * (2 * a + 1)) * 2 ^ (min j k) := by
    have : (2 : Int) ^ j = 2 ^ (j - min j k) * 2 ^ (min j k) := by rw [← Int.pow_add]; congr 1; omega
    rw [this]; grind
  have e2 : k = (k - min j k) + min j k := by omega
  have h := lowN_mul (2 ^ (j - min j k) * (2 * a + 1)) (k - min j k) (min j k)
  rw [← e, ← e2] at h
  rw [h]
  refine lowN_self (m := (2 ^ (j - min j k) * (2 * a + 1), k - min j k)) ?_
  by_cases q : k ≤ j
  · exact Or.inl (by show k - min j k = 0; omega)
  · refine Or.inr ?_
    have : j - min j k = 0 := by omega
    show (2 ^ (j - min j k) * (2 * a + 1)) % 2 = 1
    rw [this, Int.pow_zero]; omega
end Rope

set_option maxHeartbeats 4000000
namespace L2
open PySem PySem.Spec PyProof.Rows
section
variable {X : Cx} {a b : Expr} {ta tb : TE} {pos : Pos}

/-! ### shifts, bit_length -/
def CShl (i j : Int) : Prop := 0 ≤ j ∧ (Builtin.Int.intBits i : Int) + j ≤ 2 ^ 27
theorem op_shlW : OpR X (binaryOp .LShift) (rI CShl fun i j => .int (i * 2 ^ j.toNat)) := opI fun _ _ _ _ _ _ _ hc q => lshift_int hc.1 hc.2 q
theorem mt_bitlen : MtR X "int.bit_length" (fun x xs H Q => ∃ i, x = .int i ∧ xs = [] ∧ Q (.int (Builtin.Int.intBits i : Nat)) H) := by
  intro pins s σ H x xs v us Q I rx rs q
  obtain ⟨i, rfl, rfl, q⟩ := q
  obtain ⟨t, rfl⟩ := rx
  cases rs
  exact call_int_bit_length ⟨.int _, H, I.tok _, ⟨_, rfl⟩, q⟩
theorem bits_pow (k : Nat) : Builtin.Int.intBits (2 ^ k) = k + 1 := by
  unfold Builtin.Int.intBits
  have h : ((2 : Int) ^ k == 0) = false := by
    have := Rope.pow_pos k
    simp only [beq_eq_false_iff_ne]; omega
  rw [h]
  show ((2 : Int) ^ k).natAbs.log2 + 1 = k + 1
  rw [Int.natAbs_pow]
  show (2 ^ k).log2 + 1 = k + 1
  rw [Nat.log2_two_pow]

/-! ### isinstance against a built-in type -/
def tyName (K : PySem.W.Frag) (H : Hp) (x : V) (T : String) : Prop := match x with
  | .non => T = "NoneType"
  | .bl _ => T = "bool"
  | .int _ => T = "int"
  | .str _ => T = "str"
  | .ref a => (T = "list" ∧ ∃ xs, SqL K H a xs) ∨ (T = "tuple" ∧ ∃ xs, SqT K H a xs)
  | _ => False
theorem call_isi : CallR X (.builtin "isinstance") (fun xs H Q => ∃ x T T' b, xs = [x, .ty T'] ∧ tyName X.K H x T ∧ PySem.W.kitOne X.K (.type T) (.type T') = some b ∧ Q (.bl b) H) := by
  intro pins s σ H xs us Q I r h
  obtain ⟨x, T, T', b, rfl, ty, e, q⟩ := h
  obtain ⟨u, c, rfl, rx, rc⟩ := vals2 r
  cases (show c = Value.type T' from rc)
  have fin : ∀ tk, EP X pins σ Q (.bool b) { s with toks := tk } := fun tk => ⟨.bl b, H, I.tok _, rfl, q⟩
  cases x with
  | non => cases (show u = Value.none from rx); cases (show T = "NoneType" from ty); exact PySem.W.kia_one PySem.W.kitx_none I.kIn True.intro e (fun z => nomatch z) fin
  | bl y => cases (show u = Value.bool y from rx); cases (show T = "bool" from ty); exact PySem.W.kia_one PySem.W.kitx_bool I.kIn True.intro e (fun z => nomatch z) fin
  | int i => obtain ⟨t, q⟩ := (show ∃ t, u = Value.int i t from rx); cases q; cases (show T = "int" from ty); exact PySem.W.kia_one PySem.W.kitx_int I.kIn True.intro e (fun z => nomatch z) fin
  | str y => obtain ⟨t, q⟩ := (show ∃ t, u = Value.str y t from rx); cases q; cases (show T = "str" from ty); exact PySem.W.kia_one PySem.W.kitx_str I.kIn True.intro e (fun z => nomatch z) fin
  | ref a =>
    cases (show u = Value.ref a from rx)
    rcases ty with ⟨rfl, xs, hq⟩ | ⟨rfl, xs, hq⟩
    · obtain ⟨its, _, ⟨o, n, e1, c1, _, _⟩, _⟩ := I.list hq
      exact PySem.W.kia_one PySem.W.kitx_list I.kIn ⟨o, e1, c1⟩ e (fun z => nomatch z) fin
    · obtain ⟨its, _, ⟨o, e1, c1, _⟩, _⟩ := I.tuple hq
      exact PySem.W.kia_one PySem.W.kitx_tuple I.kIn ⟨o, e1, c1⟩ e (fun z => nomatch z) fin
  | _ => exact False.elim ty


/-! ### == of tuples of flat values, of lists of such tuples -/
def eqL {α : Type} (f : α → α → Bool) : List α → List α → Bool
  | [], [] => true
  | x :: xs, y :: ys => f x y && eqL f xs ys
  | _, _ => false
theorem eqL_refl {α : Type} {f : α → α → Bool} : ∀ {xs : List α}, (∀ x ∈ xs, f x x = true) → eqL f xs xs = true
  | [], _ => rfl
  | x :: xs, h => by
    unfold eqL
    rw [eqL_refl fun y hy => h y (List.mem_cons_of_mem _ hy), h x List.mem_cons_self]
    rfl
theorem eqL_eq {α : Type} {f : α → α → Bool} (hf : ∀ x y, f x y = true → x = y) : ∀ {xs ys : List α}, eqL f xs ys = true → xs = ys
  | [], [], _ => rfl
  | [], _ :: _, h => absurd h (by simp [eqL])
  | _ :: _, [], h => absurd h (by simp [eqL])
  | x :: xs, y :: ys, h => by
    unfold eqL at h
    rw [Bool.and_eq_true] at h
    rw [hf x y h.1, eqL_eq hf h.2]
def atE {α : Type} (f : α → α → Bool) (xs ys : List α) (j : Nat) : Bool := match xs[j]?, ys[j]? with
  | some x, some y => f x y
  | _, _ => false
theorem range_eqL {α : Type} (f : α → α → Bool) : ∀ (xs ys : List α), ((List.range (min xs.length ys.length)).all (atE f xs ys) && xs.length == ys.length) = eqL f xs ys
  | [], [] => by simp [eqL]
  | [], _ :: _ => by simp [eqL]
  | _ :: _, [] => by simp [eqL]
  | x :: xs, y :: ys => by
    have ih := range_eqL f xs ys
    unfold eqL
    rw [← ih]
    have e : min (x :: xs).length (y :: ys).length = min xs.length ys.length + 1 := by simp only [List.length_cons]; omega
    rw [e, List.range_succ_eq_map, List.all_cons, List.all_map]
    have e1 : atE f (x :: xs) (y :: ys) 0 = f x y := rfl
    have e2 : (atE f (x :: xs) (y :: ys) ∘ Nat.succ) = atE f xs ys := by funext j; simp [atE, Function.comp]
    have e3 : ((x :: xs).length == (y :: ys).length) = (xs.length == ys.length) := by simp
    rw [e1, e2, e3, Bool.and_assoc]
theorem eqV_refl {x : V} (h : flatV x = true) : eqV x x = true := by
  cases x with
  | non => rfl
  | bl b => exact beq_self_eq_true b
  | int i => exact beq_self_eq_true i
  | str z => exact beq_self_eq_true z
  | _ => exact absurd (show false = true from h) Bool.false_ne_true
abbrev eqVs : List V → List V → Bool := eqL eqV
theorem eqVs_refl {xs : List V} (h : xs.all flatV = true) : eqVs xs xs = true := eqL_refl fun x hx => eqV_refl (List.all_eq_true.mp h x hx)
theorem tuple_eqAt {A : Around} {pins : List (Addr × Obj)} {s : Shared} {σ : St} {H : Hp} {p q : Addr} {xs ys : List V} (I : Inv X pins σ H s) (hp : SqT X.K H p xs) (hq : SqT X.K H q ys) (fx : xs.all flatV = true) (fy : ys.all flatV = true) (hu : A.units < cLine) :
    SeqAt.RcAt A s (.ref p) (.ref q) (eqVs xs ys) := by
  obtain ⟨its, r, t, _⟩ := I.tuple hp
  obtain ⟨its', r', t', _⟩ := I.tuple hq
  have h := SeqAt.RcAt.tuples (e := atE eqV xs ys) t t' hu fun j h1 h2 => by
    have l1 : j < its.length := by simpa using h1
    have l2 : j < its'.length := by simpa using h2
    have e1 := r.length
    have e2 := r'.length
    have g1 : xs[j]? = some xs[j] := by simp [e1, l1]
    have g2 : ys[j]? = some ys[j] := by simp [e2, l2]
    obtain ⟨u, hu1, ru⟩ := r.get g1
    obtain ⟨v, hv1, rv⟩ := r'.get g2
    have f1 : its.toArray[j] = u := by
      have : its[j]? = some its[j] := by simp [l1]
      rw [this] at hu1
      simpa using Option.some.inj hu1
    have f2 : its'.toArray[j] = v := by
      have : its'[j]? = some its'[j] := by simp [l2]
      rw [this] at hv1
      simpa using Option.some.inj hv1
    rw [f1, f2]
    have : atE eqV xs ys j = eqV xs[j] ys[j] := by unfold atE; rw [g1, g2]
    rw [this]
    exact eqAt_V ru rv (List.all_eq_true.mp fx _ (List.getElem_mem _)) (List.all_eq_true.mp fy _ (List.getElem_mem _))
  have e : ((List.range (min its.toArray.size its'.toArray.size)).all (atE eqV xs ys) && its.toArray.size == its'.toArray.size) = eqVs xs ys := by
    show _ = eqL eqV xs ys
    rw [← range_eqL]
    simp only [List.size_toArray, r.length, r'.length]
  rw [e] at h
  exact h
theorem tuple_eqAt' {A : Around} {pins : List (Addr × Obj)} {s : Shared} {σ : St} {H : Hp} {p q : Addr} {xs ys : List V} (I : Inv X pins σ H s) (hp : SqT X.K H p xs) (hq : SqT X.K H q ys) (fx : xs.all flatV = true) (fy : ys.all flatV = true) (hu : A.units < cLine) :
    SeqAt.EqAt A s (.ref p) (.ref q) (eqVs xs ys) := by
  by_cases e : p = q
  · subst e
    have e2 := I.tuple_inj hp hq
    subst e2
    rw [eqVs_refl fx]
    exact SeqAt.EqAt.same _
  · exact SeqAt.EqAt.of_refs e (tuple_eqAt I hp hq fx fy hu)
def rEqT (K : PySem.W.Frag) : R2 := fun x y H Q => ∃ p q xs ys, x = .ref p ∧ y = .ref q ∧ SqT K H p xs ∧ SqT K H q ys ∧ xs.all flatV = true ∧ ys.all flatV = true ∧ Q (.bl (eqVs xs ys)) H
theorem op_eqT (hu : X.A.units < cLine) : OpR X (compareOp .Eq) (rEqT X.K) := by
  intro pins s σ H x y v u Q I rx ry h
  obtain ⟨p, q, xs, ys, rfl, rfl, hp, hq, fx, fy, k⟩ := h
  cases rx
  cases ry
  exact tuple_eqAt I hp hq fx fy hu _ _ _ _ ⟨.bl _, H, I, rfl, k⟩

/-! ### a short index; a call of a def by its promise -/
def up (t : TE) : TE := fun σ H Q => ∃ Q0 : VK, t σ H Q0 ∧ ∀ v H', Q0 v H' → Q v H'
theorem PE.up {e : Expr} {t : TE} (h : PE X e t) : PE X e (up t) := by
  intro pins s σ H Q I ⟨Q0, h0, m⟩
  exact thn (h pins s σ H Q0 I h0) fun v s' ⟨x, H1, I1, r1, q1⟩ => ⟨x, H1, I1, r1, m _ _ q1⟩
def tIxc (K : PySem.W.Frag) (k : Nat) (ta : TE) : TE := fun σ H Q => ta σ H fun x H1 => ∃ p xs v, x = .ref p ∧ SqT K H1 p xs ∧ xs[k]? = some v ∧ Q v H1
theorem pe_ixc (k : Nat) {j pos'} (ha : PE X a ta) : PE X (.Subscript a (.Constant (.int (k : Nat)) j pos') pos) (tIxc X.K k ta) := by
  intro pins s σ H Q I h
  refine pe_ix ix_tup ha.up pe_int (fun _ _ => rfl) pins s σ H Q I ⟨_, h, ?_⟩
  rintro x H1 ⟨p, xs, v, rfl, hp, hv, q⟩
  exact ⟨p, xs, _, v, rfl, rfl, hp, atI_nat hv, q⟩
/-- a def of the text that keeps a promise -/
def OkD (P : Program) (w : World) (K : PySem.W.Frag) (mg : Str → Option Value) (base : Heap) (CX : CXT) (k : Nat) (x : Str) (ps : List Str) (sp : Sp) : Prop :=
  ∃ (f : Addr) (fd : FuncData), mg x = some (.ref f) ∧ PySem.W.keepIn K (.ref f) = true ∧ Binds K fd ps [] ∧ FnOk P w K mg base CX k f fd ps sp
theorem OkD.mono {P : Program} {w : World} {K : PySem.W.Frag} {mg : Str → Option Value} {base : Heap} {CX : CXT} {j k : Nat} {x : Str} {ps : List Str} {sp : Sp} (G : OkD P w K mg base CX j x ps sp) (h : j ≤ k) : OkD P w K mg base CX k x ps sp := by
  obtain ⟨f, fd, h1, h2, h3, h4⟩ := G
  exact ⟨f, fd, h1, h2, h3, h4.mono h⟩
theorem pe_callD {CX : CXT} {E : XK} {k : Nat} {x : Str} {ps : List Str} {sp : Sp} {p : Pos} {e : Expr} {es : List Expr} {t : TA} (G : OkD X.prog X.w X.K X.mg X.base CX k x ps sp) (hr : Room k X.A) (hx : Passes CX X E) (ha : PA X (e :: es) t) (hg : Gl X x := by rfl)
    (hdb : (x == ("__debug__" : Str)) = false := by decide) (he : starEach (e :: es) X.env = (false, eval e X.env) :: starEach es X.env := by rfl) (hpl : (backTo pos (starEach es X.env)).any (·.1) = false := by rfl) :
    PE X (.Call (.Name x p) (e :: es) [] pos) (tCall sp [] E t) := by
  obtain ⟨f, fd, h1, h2, h3, h4⟩ := G
  exact pe_call h4 hr hg h1 h2 h3 .nil hx ha hdb he hpl
/-- a def of the text as it stands behind the top -/
def DefIn (K : PySem.W.Frag) (mg : Str → Option Value) (x : Str) (st : Stmt) (ps : List Str) : Prop :=
  ∃ (f : Addr) (fd : FuncData), mg x = some (.ref f) ∧ Fun K x x st f fd ∧ Binds K fd ps []
/-- THE RULE for a def whose body lets no exception out -/
theorem DefIn.ok {P : Program} {w : World} {K : PySem.W.Frag} {mg : Str → Option Value} {base : Heap} {x : Str} {st : Stmt} {N ps : List Str} {k : Nat} {sp : Sp} (F : DefIn K mg x st ps) (S : FnScope N ps (defScope st)) (len : ∀ vs H Q E, sp vs H Q E → vs.length = ps.length)
    (hbody : ∀ (f : Addr) (cdv : Value) (A : Around) (outer : List Env) (s : Shared) (H : Hp) (vs : List V) (Q : VK) (E : XK), Room k (A.deeper (envOfC x (defScope st) s.heap.objs.size f cdv)) → sp vs H Q E →
      ∃ t, PSs (cxOf CX0 P w K mg base N x (defScope st) f cdv A outer s H E).nox (defBody st) t ∧ t { nx := fun _ H' => Q .non H', rt := Q } (start N vs) H) : OkD P w K mg base CX0 (k + 1) x ps sp := by
  obtain ⟨f, fd, h1, h2, h3⟩ := F
  exact ⟨f, fd, h1, h2.kp, h3, h2.ok S len (hbody f)⟩

/-! ### moments on the heap -/
/-- the tuple (t, 2 ^ k) -/
def Mo (K : PySem.W.Frag) (H : Hp) (v : V) (m : Rope.M) : Prop := ∃ p, v = .ref p ∧ SqT K H p [.int m.1, .int (2 ^ m.2)]
theorem Same.tup {K : PySem.W.Frag} {H H' : Hp} {a : Addr} {xs : List V} (e : Same H H') (h : SqT K H a xs) : SqT K H' a xs := by
  rcases h with (h | ⟨o, h⟩) | h
  · exact .inl (.inl (e _ _ h))
  · exact .inl (.inr ⟨o, e _ _ h⟩)
  · exact .inr h
theorem Mo.same {K : PySem.W.Frag} {H H' : Hp} {v : V} {m : Rope.M} (e : Same H H') (h : Mo K H v m) : Mo K H' v m := by
  obtain ⟨p, rfl, h⟩ := h
  exact ⟨p, rfl, e.tup h⟩
theorem same_upd {H : Hp} {p : Addr} {o : HO} (h : H p = none) : Same H (upd H p o) := fun b u e => by
  rw [upd_ne (ne_of_none e h)]; exact e
theorem Mo.new {K : PySem.W.Frag} {H : Hp} {p : Addr} {t b : Int} {m : Rope.M} (h1 : t = m.1) (h2 : b = 2 ^ m.2) : Mo K (upd H p (.tup [.int t, .int b])) (.ref p) m := by
  subst h1 h2
  exact ⟨p, rfl, SqT.of upd_same⟩
end
end L2

set_option maxHeartbeats 4000000
namespace L2
open PySem PySem.Spec PyProof.Rows

/-! ### a list comprehension: [elt for x in iter if ..] whose block raises nothing -/
/-- the context of its block: C its names' dict, cl its closure, s0 and H0 as the iterator has come, fp the iterator's own objects -/
def blk (X : Cx) (N' : List Str) (scope : Scope) (cl : List (Str × Addr)) (C : Addr) (s0 : Shared) (H0 : Hp) (fp : List Addr) : Cx :=
  { X with N := N', s₀ := s0, H₀ := H0, env := compEnvC scope cl C X.env, outer := X.stack, stack := X.stack, ex := fp, fn := fun _ => false, pn := [], xe := fun _ _ => False }
/-- the block's names: the loop's own, and those of the def that it sees (js tells their slots there) -/
structure BlkScope (X : Cx) (N' : List Str) (js : List (Option Nat)) (scope : Scope) (cl : List (Str × Addr)) : Prop where
  kind : scope.kind = .function
  nocell : ∀ y ∈ scope.names, y.2 ≠ .cell
  names : ∀ y ∈ scope.names, y.2 = .local → scope.names.lookup y.1 = some .local
  clos : closureFor scope X.env = pure cl
  cells : ∀ x c, cl.lookup x = some c → X.env.cells.lookup x = some c
  has : ∀ x, ((relabel scope X.env).names.lookup x = some .cell ∨ (relabel scope X.env).names.lookup x = some .free) → ∃ c, cl.lookup x = some c
  len : js.length = N'.length
  sees : ∀ (i j : Nat) (x : Str), js[i]? = some (some j) → N'[i]? = some x → X.N[j]? = some x ∧ X.env.kindOf x ≠ some .local ∧ Vis X.env.scope x ∧
    ((relabel scope X.env).names.lookup x = some .cell ∨ (relabel scope X.env).names.lookup x = some .free)
def seen (js : List (Option Nat)) (σ : St) : St := js.map fun o => o.bind fun j => (σ[j]?).join
section
variable {X : Cx} {pins : List (Addr × Obj)} {σ : St} {H : Hp} {s2 : Shared} {N' : List Str} {js : List (Option Nat)} {scope : Scope} {cl : List (Str × Addr)} {fp : List Addr}
theorem blk_ok (I : Inv X pins σ H s2) (B : BlkScope X N' js scope cl) (hfp : ∀ b ∈ fp, FpOk X pins H b) (ho : ∀ b ∈ fp, ∃ o, s2.heap.get? b = some o ∧ ∀ v, o.data ≠ .cell v) {C : Addr} (hC : s2.heap.objs.size ≤ C) :
    (blk X N' scope cl C s2 H fp).Ok := by
  refine ⟨I.ok.mod, B.kind, I.ok.glob, I.ok.blt, hC, fun x y c e1 e2 => I.ok.inj x y c (B.cells x c e1) (B.cells y c e2), fun x h => B.has x h, fun x c e _ => absurd e Bool.false_ne_true, I.ok.hd, I.ok.frames, .inl rfl, fun b hb => ⟨?_, fun x c e => ?_⟩,
    I.bs, Nat.le_trans I.ok.bsz I.sz, fun b o e hb => ?_, fun b hb hs => ?_, I.stack, I.stkFree⟩
  · obtain ⟨o, e, _⟩ := ho b hb
    exact Nat.ne_of_lt (Nat.lt_of_lt_of_le (Heap.lt_size e) hC)
  · exact (hfp b hb).2.2.2.2.1 x c (B.cells x c e)
  · rcases (hfp b hb).2.2.2.1 with z | z
    · exact I.ok.noex b o e z
    · exact absurd (Nat.lt_of_lt_of_le (Heap.lt_size (I.ok.bs b o e).1) z) (Nat.lt_irrefl _)
  · rcases List.mem_cons.mp (I.stkSub b hs) with z | z
    · exact (hfp b hb).2.1 z
    · exact (hfp b hb).2.2.1 z
theorem blk_start (I : Inv X pins σ H s2) (B : BlkScope X N' js scope cl) (hfp : ∀ b ∈ fp, FpOk X pins H b) (ho : ∀ b ∈ fp, ∃ o, s2.heap.get? b = some o ∧ ∀ v, o.data ≠ .cell v) {C D : Addr} {h4 : Heap} {tk : Nat} {m : Str → Option Value}
    (hD : s2.heap.objs.size ≤ D) (hDC : D < C) (k : ∀ b o, s2.heap.get? b = some o → h4.get? b = some o) (hD4 : h4.get? D = some { cls := .type "list", data := .seq #[] 0 }) (hn : h4.Ns C m) :
    Inv (blk X N' scope cl C s2 H fp) [] (seen js σ) (upd H D (.lst [])) { s2 with heap := h4, toks := tk } := by
  have hC : s2.heap.objs.size ≤ C := Nat.le_trans hD (Nat.le_of_lt hDC)
  refine ⟨blk_ok I B hfp ho hC, rfl, I.bare, Un.laid k hD (I.hok.fresh hD), ⟨m, hn, fun i x v e1 e2 e3 => ?_⟩, fun x c e => ?_, ?_, fun x c e => ?_, fun p hp => absurd (show p ∈ ([] : List (Addr × Obj)) from hp) (by simp), I.hok.laid k hD ?_, ?_⟩
  · -- a name that is seen
    have e2' : (js.map fun o => o.bind fun j => (σ[j]?).join)[i]? = some (some v) := e2
    rw [List.getElem?_map] at e2'
    cases q : js[i]? with
    | none => rw [q] at e2'; cases e2'
    | some o =>
      cases o with
      | none => rw [q] at e2'; cases e2'
      | some j =>
        rw [q] at e2'
        have e3' : (σ[j]?).join = some v := Option.some.inj e2'
        have hj : σ[j]? = some (some v) := by
          cases r : σ[j]? with
          | none => rw [r] at e3'; cases e3'
          | some y => rw [r] at e3'; rw [show y = some v from e3']
        obtain ⟨hN, hk, hv, hr⟩ := B.sees i j x q e1
        obtain ⟨m0, _, hl⟩ := I.loc
        obtain ⟨u, ru, l⟩ := hl j x v hN hj hv
        refine ⟨u, ru, .inr ⟨hr, ?_⟩⟩
        rcases l with ⟨z, _⟩ | ⟨_, c, e, hc⟩
        · exact absurd z hk
        · obtain ⟨c', e'⟩ := B.has x hr
          have z : c' = c := Option.some.inj ((B.cells x c' e').symm.trans e)
          subst z
          obtain ⟨o, q1, q2⟩ := hc
          exact ⟨c', e', o, k _ _ q1, q2⟩
  · obtain ⟨v, o, q1, q2⟩ := I.cell x c (B.cells x c e)
    exact ⟨v, o, k _ _ q1, q2⟩
  · show (upd H D (.lst [])) C = none
    rw [upd_ne (Nat.ne_of_gt hDC)]
    exact I.hok.fresh hC
  · obtain ⟨v, o, q1, q2⟩ := I.cell x c (B.cells x c e)
    rw [upd_ne (Nat.ne_of_lt (Nat.lt_of_lt_of_le (Heap.lt_size q1) hD))]
    exact I.freeC x c (B.cells x c e)
  · exact ⟨Nat.zero_le _, [], 0, .nil, hD4⟩
  · show (js.map _).length = N'.length
    rw [List.length_map, B.len]
/-- behind the block -/
theorem blk_end (I : Inv X pins σ H s2) (hfp : ∀ b ∈ fp, FpOk X pins H b) {C : Addr} {σ' : St} {H' : Hp} {s' : Shared} (J : Inv (blk X N' scope cl C s2 H fp) [] σ' H' s') : Inv X pins σ H' s' := by
  refine I.call' (ch := fp) J.os J.base J.hok J.bare fun b hb => ?_
  obtain ⟨f0, f1, f2, f3, f4, f5⟩ := hfp b hb
  exact ⟨f3, f1, f4, f5⟩
/-- the block's dict is let go -/
theorem blk_gone (I : Inv X pins σ H s2) {C : Addr} (hC : s2.heap.objs.size ≤ C) {σ1 : St} {H' : Hp} {s' : Shared} (J : Inv X pins σ1 H' s') (hn : H' C = none) {h'' : Heap} (hs : Heap.SameBut C s'.heap h'') :
    Inv X pins σ1 H' { s' with heap := h'' } := by
  refine J.turned (t' := s'.toks) (it := C) (fun b o hb e => (hs.2 b hb).trans e) hn (Nat.ne_of_gt (Nat.lt_of_lt_of_le I.lt hC)) (.inr (Nat.le_trans I.sz hC)) (fun x c e z => ?_) fun p hp z => ?_
  · obtain ⟨v, o, q1, _⟩ := I.cell x c e
    exact absurd (Nat.lt_of_lt_of_le (Heap.lt_size q1) (z ▸ hC)) (Nat.lt_irrefl _)
  · exact absurd (Nat.lt_of_lt_of_le (Heap.lt_size (I.pin p hp).1) (z ▸ hC)) (Nat.lt_irrefl _)
end

/-- the tests of a clause -/
def PIfs (Y : Cx) (ifs : List Expr) (t : TT) : Prop :=
  ∀ (pins : List (Addr × Obj)) (s : Shared) (σ : St) (H : Hp) (Q : Bool → Hp → Prop), Inv Y pins σ H s → t σ H Q →
    wpAny (model Y.prog Y.w) Y.A (forIn ifs true fun c r => if r = true then do let ok ← isTrue c Y.env (eval c Y.env); pure (ForInStep.yield ok) else pure (ForInStep.yield r)) (TP Y pins σ Q) Y.xe s
def tNoIf : TT := fun _ H Q => Q true H
theorem pifs_nil {Y : Cx} : PIfs Y [] tNoIf := fun _ _ _ H _ I h => wpAny_tests_nil ⟨H, I, h⟩
theorem pifs_one {Y : Cx} {c : Expr} {t : TT} (h : PT Y c t) : PIfs Y [c] t := fun pins s σ H Q I q => wpAny_tests_one (h pins s σ H Q I q)
/-- the reading: D is the new list; W the invariant with its measure -/
def tComp (js : List (Option Nat)) (wi : TI) (g : TG) (tt : TT) (te : TE) : TE := fun σ H Q => wi σ H fun J H1 => ∀ D, H1 D = none → ∃ W : Nat → Nat → St → Hp → Prop, (∃ m, W 0 m (seen js σ) (upd H1 D (.lst []))) ∧
  ∀ i m σ' H', W i m σ' H' → (J.stop i H' ∧ Q (.ref D) H') ∨ (J.go i H' ∧ ∃ Nn : St → Hp → Prop, (∀ σ'' H'', Nn σ'' H'' → ∃ m', m' < m ∧ W (i + 1) m' σ'' H'') ∧
    ∀ x H'', J.yld i H' x H'' → g x σ' H'' fun σ2 H2 => tt σ2 H2 fun b H3 => if b = true then te σ2 H3 fun v H4 => ∃ zs, H4 D = some (.lst zs) ∧ zs.length < sizeLine ∧ Nn σ2 (upd H4 D (.lst (zs ++ [v]))) else Nn σ2 H3)
section
variable {X : Cx}
/-- one turn, with the step ahead of the store -/
theorem comp_loop {prog : Program} {w : World} {A : Around} {R : Result → Shared → Prop} {s : Shared} {elt tg iter : Expr} {ifs : List Expr} {scope : Scope} {pos : Pos} {it acc : Value} {env : Env} (Iv : Nat → Shared → Prop)
    (turn : ∀ n s, Iv n s → wpAny (model prog w) A (pyNext it) (fun r s1 => match r with
      | none => R (.ok .next) s1
      | some v => wpAny (model prog w) A (letOwnedTupleGo tg it v) (fun _ s2 => wpAny (model prog w) A (assign tg env v) (fun _ s3 =>
          wpAny (model prog w) A (forIn ifs true fun c r => if r = true then do let ok ← isTrue c env (eval c env); pure (ForInStep.yield ok) else pure (ForInStep.yield r)) (fun ok s4 =>
            if ok = true then wpAny (model prog w) A (eval elt env) (fun x s5 => wpAny (model prog w) A (call (.builtin "list.append") [acc, x]) (fun _ s6 => ∃ m, m < n ∧ Iv m s6) (fun _ _ => False) s5) (fun _ _ => False) s4
            else ∃ m, m < n ∧ Iv m s4) (fun _ _ => False) s3) (fun _ _ => False) s2) (fun _ _ => False) s1) (fun _ _ => False) s)
    (n : Nat) (h : Iv n s) : codeAny (model prog w) A (.compLoop (.ListComp elt [⟨tg, iter, ifs, 0⟩] scope pos) 0 it acc env) R s := by
  refine codeAny_loop rfl Iv (fun n s hI => ?_) n h
  show wpAny _ A ((compTurn (.ListComp elt [⟨tg, iter, ifs, 0⟩] scope pos) 0 it acc env).onRaise _) _ _ s
  refine wpAny_noted (wpAny_mono (E := fun _ _ => False) ?_ (fun _ _ q => q) fun _ _ z => z.elim)
  rw [compTurn_list]
  refine wpAny_bind (wpAny_standAt (wpAny_bind (thn (turn n s hI) fun r s1 h1 => ?_)))
  cases r with
  | none => exact wpAny_pure h1
  | some v =>
    refine wpAny_bind (thn h1 fun _ s2 h2 => wpAny_bind (thn h2 fun _ s3 h3 => wpAny_bind (thn h3 fun ok s4 h4 => ?_)))
    cases ok with
    | false => exact wpAny_pure ⟨rfl, h4⟩
    | true => exact wpAny_bind (wpAny_bind (thn h4 fun x s5 h5 => wpAny_bind (thn h5 fun _ s6 h6 => wpAny_pure (wpAny_pure ⟨rfl, h6⟩))))
theorem comp_run {elt tg iter : Expr} {ifs : List Expr} {scope : Scope} {cl : List (Str × Addr)} {pos cpos : Pos} {N' : List Str} {js : List (Option Nat)} {wi : TI} {g : TG} {tt : TT} {te : TE} {use : Option (Value → Sem Unit)} {QQ : Value → Shared → Prop}
    {pins : List (Addr × Obj)} {s : Shared} {σ : St} {H : Hp} {Q : VK} (hc : X.calm = true) (B : BlkScope X N' js scope cl) (hi : PI X tg iter wi) (hg : ∀ C s0 H0 fp, PG (blk X N' scope cl C s0 H0 fp) tg g)
    (ht : ∀ C s0 H0 fp, PIfs (blk X N' scope cl C s0 H0 fp) ifs tt) (he : ∀ C s0 H0 fp, PE (blk X N' scope cl C s0 H0 fp) elt te) (I : Inv X pins σ H s) (h : tComp js wi g tt te σ H Q)
    (post : ∀ (D C : Addr) (s2 s' : Shared) (H2 H' : Hp), Inv X pins σ H2 s2 → s2.heap.objs.size ≤ C → Inv X pins σ H' s' → H' C = none → (∃ m, s'.heap.Ns C m) → Q (.ref D) H' → compPost (model X.prog X.w) X.A X.xe use QQ (.ref D) C (.ok .next) s')
    (hs : ∀ x, foldedSetIterable iter X.env x = pure x := by intro _; rfl) :
    wpAny (model X.prog X.w) X.A (comprehension (.ListComp elt [⟨tg, iter, ifs, 0⟩] scope pos) scope X.env cpos (newList []) false (eval iter X.env) use) QQ X.xe s := by
  refine wpAny_comprehension_free rfl hs B.clos B.kind B.names (thn (hi pins s σ H _ I h) fun v s1 h1 => thn h1 fun itv s2 h2 => ?_)
  obtain ⟨it, fp, tn, J, H2, e, I2, T, st2, f2, h2⟩ := h2
  subst e
  have ob := T.obj 0 _ st2
  refine wpAny_newObj_type (T := "list") (wpAny_newFunctionEnv B.nocell (by intro y hy; simp at hy) (fun h4 hn4 hb4 => ?_) B.kind) (by size_fits)
  obtain ⟨W, ⟨m0, w0⟩, turn⟩ := h2 s2.heap.objs.size (I2.hok.fresh (Nat.le_refl _))
  dsimp only at hn4 hb4 ⊢
  have hCs : (s2.heap.push { cls := Value.type "list", dict := none, data := Data.seq ([] : List Value).toArray }).objs.size = s2.heap.objs.size + 1 := by rw [Heap.size_push]
  generalize hG : s2.heap.push { cls := Value.type "list", dict := none, data := Data.seq ([] : List Value).toArray } = G at hn4 hb4 hCs ⊢
  generalize hCd : G.objs.size = C at hn4 hb4 hCs ⊢
  have hDC : s2.heap.objs.size < C := by omega
  have keep : ∀ b o, s2.heap.get? b = some o → h4.get? b = some o := fun b o e => by
    have hb : b ≠ C := Nat.ne_of_lt (Nat.lt_trans (Heap.lt_size e) hDC)
    rw [hb4.2 b hb]
    exact Heap.get?_push_of_some _ (hG ▸ Heap.get?_push_of_some _ e)
  have hD4 : h4.get? s2.heap.objs.size = some { cls := .type "list", data := .seq #[] 0 } := by
    rw [hb4.2 _ (Nat.ne_of_lt hDC)]
    exact Heap.get?_push_of_some _ (hG ▸ Heap.get?_push_size _ rfl)
  have I4 := blk_start (tk := s2.toks + 0) I2 B f2 ob (Nat.le_refl _) hDC keep hD4 hn4
  have loop : ∀ tk, codeAny (model X.prog X.w) X.A (.compLoop (.ListComp elt [⟨tg, iter, ifs, 0⟩] scope pos) 0 (.ref it) (.ref s2.heap.objs.size) (compEnvC scope cl C X.env)) (compPost (model X.prog X.w) X.A X.xe use QQ (.ref s2.heap.objs.size) C) { s2 with heap := h4, toks := tk } := by
    intro tk
    refine comp_loop (fun n s' => ∃ i σ' H', Inv (blk X N' scope cl C s2 H2 fp) [] σ' H' s' ∧ tn i s'.heap ∧ (∀ b ∈ fp, H' b = none) ∧ W i n σ' H') ?_ m0 ⟨0, _, _, I4.tok tk, T.keep 0 _ _ st2 fun b hb o e => keep b o e, fun b hb => ?_, w0⟩
    · rintro n s5 ⟨i, σ5, H5, I5, st5, fr5, w5⟩
      have stat : ∀ {H' : Hp}, (∀ b ∈ fp, H' b = none) → ∀ b ∈ fp, FpOk (blk X N' scope cl C s2 H2 fp) [] H' b := fun hn b hb => by
        obtain ⟨q0, q1, q2, q3, q4, q5⟩ := f2 b hb
        obtain ⟨o, eo, _⟩ := ob b hb
        refine ⟨hn b hb, Nat.ne_of_lt (Nat.lt_trans (Heap.lt_size eo) hDC), fun z => ?_, .inl hb, fun x c e => q4 x c (B.cells x c e), fun p hp => absurd (show p ∈ ([] : List (Addr × Obj)) from hp) (by simp)⟩
        rcases List.mem_cons.mp (I2.stkSub b z) with y | y
        · exact q1 y
        · exact q2 y
      rcases turn i n σ5 H5 w5 with ⟨stop, qn⟩ | ⟨go, Nn, hN, step⟩
      · refine thn (T.done (blk X N' scope cl C s2 H2 fp) rfl rfl rfl hc i [] s5 σ5 H5 _ I5 (stat fr5) st5 stop) fun r s6 ⟨hr, I6⟩ => ?_
        subst hr
        obtain ⟨m6, hn6, _⟩ := id I6.loc
        exact post _ C s2 s6 H2 H5 I2 (Nat.le_of_lt hDC) (blk_end I2 f2 I6) I6.free ⟨m6, hn6⟩ qn
      · refine thn (T.item (blk X N' scope cl C s2 H2 fp) rfl rfl rfl hc i [] s5 σ5 H5 _ I5 (stat fr5) st5 go) fun r s6 ⟨u, hr, h6⟩ => ?_
        subst hr
        refine thn h6 fun _ s7 ⟨x, H7, I7, r7, y7, st7, fr7⟩ => ?_
        have I7' := I7.pinned (stat fr7) (T.obj _ _ st7)
        have again : ∀ {σ8 : St} {H8 : Hp} {s8 : Shared}, Inv (blk X N' scope cl C s2 H2 fp) ([] ++ pinsAt fp s7.heap) σ8 H8 s8 → Nn σ8 H8 → ∃ m, m < n ∧ ∃ i σ' H', Inv (blk X N' scope cl C s2 H2 fp) [] σ' H' s8 ∧ tn i s8.heap ∧ (∀ b ∈ fp, H' b = none) ∧ W i m σ' H' := fun {σ8 H8 s8} I8 n8 => by
          obtain ⟨m', hm, w8⟩ := hN σ8 H8 n8
          refine ⟨m', hm, i + 1, σ8, H8, I8.unpinned, T.keep _ _ _ st7 fun b hb o e => (I8.pin (b, o) (List.mem_append_right _ (List.mem_append_right _ (mem_pinsAt hb e)))).1, fun b hb => ?_, w8⟩
          obtain ⟨o, e, d⟩ := T.obj _ _ st7 b hb
          exact (I8.pin (b, o) (List.mem_append_right _ (List.mem_append_right _ (mem_pinsAt hb e)))).2.1
        refine thn (hg C s2 H2 fp _ s7 σ5 H7 x u _ I7' r7 (step x H7 y7)) fun _ s8 ⟨σ8, H8, I8, q8⟩ => ?_
        refine thn (ht C s2 H2 fp _ s8 σ8 H8 _ I8 q8) fun ok s9 ⟨H9, I9, q9⟩ => ?_
        cases ok with
        | false =>
          rw [if_neg Bool.false_ne_true] at q9 ⊢
          exact again I9 q9
        | true =>
          rw [if_pos rfl] at q9 ⊢
          refine thn (he C s2 H2 fp _ s9 σ8 H9 _ I9 q9) fun xv s10 ⟨y, H10, I10, r10, zs, hz, hlt, q10⟩ => ?_
          exact thn (mt_append (X := blk X N' scope cl C s2 H2 fp) _ s10 σ8 H10 (.ref s2.heap.objs.size) [y] _ _ (fun _ H' => Nn σ8 H') I10 rfl (.cons r10 .nil) ⟨_, zs, y, rfl, rfl, hz, hlt, q10⟩) fun _ s11 ⟨_, H11, I11, _, q11⟩ => again I11 q11
    · rw [upd_ne (Nat.ne_of_lt (by obtain ⟨o, eo, _⟩ := ob b hb; exact Heap.lt_size eo))]
      exact (f2 b hb).1
  exact codeAny_compStart_list (loop _) (T.self X.A 0 _ _ _ (T.keep 0 _ _ st2 fun b hb o e => keep b o e) (loop _))

theorem pe_comp {elt tg iter : Expr} {ifs : List Expr} {scope : Scope} {cl : List (Str × Addr)} {pos : Pos} {N' : List Str} {js : List (Option Nat)} {wi : TI} {g : TG} {tt : TT} {te : TE} (hc : X.calm = true) (B : BlkScope X N' js scope cl) (hi : PI X tg iter wi)
    (hg : ∀ C s0 H0 fp, PG (blk X N' scope cl C s0 H0 fp) tg g) (ht : ∀ C s0 H0 fp, PIfs (blk X N' scope cl C s0 H0 fp) ifs tt) (he : ∀ C s0 H0 fp, PE (blk X N' scope cl C s0 H0 fp) elt te)
    (hs : ∀ x, foldedSetIterable iter X.env x = pure x := by intro _; rfl) : PE X (.ListComp elt [⟨tg, iter, ifs, 0⟩] scope pos) (tComp js wi g tt te) := by
  intro pins s σ H Q I h
  rw [eval_ListComp]
  refine comp_run (use := none) (QQ := EP X pins σ Q) hc B hi hg ht he I h (fun D C s2 s' H2 H' I2 hC I' hn hm q => ?_) hs
  obtain ⟨m, hm⟩ := hm
  exact ⟨m, hm, fun h'' hb => ⟨.ref D, H', blk_gone I2 hC I' hn hb, rfl, q⟩⟩
/-- y = [..], where the store comes ahead of the block's end -/
theorem ps_setC {i : Nat} {y : Str} {py spos : Pos} {elt tg iter : Expr} {ifs : List Expr} {scope : Scope} {cl : List (Str × Addr)} {pos : Pos} {N' : List Str} {js : List (Option Nat)} {wi : TI} {g : TG} {tt : TT} {te : TE} (hN : X.N.Nodup) (hi' : X.N[i]? = some y) (hx : Loc X.env.scope y) (hc : X.calm = true) (B : BlkScope X N' js scope cl) (hi : PI X tg iter wi)
    (hg : ∀ C s0 H0 fp, PG (blk X N' scope cl C s0 H0 fp) tg g) (ht : ∀ C s0 H0 fp, PIfs (blk X N' scope cl C s0 H0 fp) ifs tt) (he : ∀ C s0 H0 fp, PE (blk X N' scope cl C s0 H0 fp) elt te)
    (hsw : swapsWith (.ListComp elt [⟨tg, iter, ifs, 0⟩] scope pos) (some (.Name y py)) spos.line X.env = pure true := by rfl)
    (hs : ∀ x, foldedSetIterable iter X.env x = pure x := by intro _; rfl) (hf : X.fn y = true ∨ X.env.scope.names.lookup y = some .local := by first | exact .inl rfl | exact .inr rfl | assumption) :
    PS X (.Assign [.Name y py] (.ListComp elt [⟨tg, iter, ifs, 0⟩] scope pos) spos) (tAsg (tComp js wi g tt te) (gName i)) := by
  intro pins s σ H D I h
  rw [exec_Assign_Name_used _ _ _ _ hsw]
  refine wpAny_bind (wpAny_standAt (wpAny_bind ?_))
  show wpAny _ _ (do let _ ← comprehension (.ListComp elt [⟨tg, iter, ifs, 0⟩] scope pos) scope X.env _ (newList []) false (eval iter X.env) (some (assign (.Name y py) X.env))) _ _ s
  refine wpAny_bind (thn (comp_run (use := some (assign (.Name y py) X.env)) (QQ := fun _ s' => SP X pins D .next s') (Q := fun x H1 => D.nx (σ.set i (some x)) H1) hc B hi hg ht he I h (fun A C s2 s' H2 H' I2 hC I' hn hm q => ?_) hs) fun _ s' q => wpAny_pure (wpAny_pure q))
  obtain ⟨m, hm⟩ := hm
  refine wpAny_assign_Name (store_ok2 (v := .ref A) I' hN hi' hx rfl (fun s'' I'' ⟨a, hsb, ha⟩ => ?_) hf)
  have hne : C ≠ a := by
    rcases ha with z | z
    · rw [z]
      exact Nat.ne_of_gt (Nat.lt_of_lt_of_le I2.lt hC)
    · obtain ⟨v, o, q1, _⟩ := I2.cell _ _ z
      exact Nat.ne_of_gt (Nat.lt_of_lt_of_le (Heap.lt_size q1) hC)
  exact ⟨m, hm.sameBut hsb hne, fun h'' hb => ⟨_, H', blk_gone I2 hC I'' hn hb, q⟩⟩
end
/-- over n items -/
theorem comp_items {J : It} {D : Addr} {n : Nat} {g : TG} {tt : TT} {te : TE} {Z : Hp → Prop} {σ0 : St} {H0 : Hp} (Pv : Nat → St → Hp → Prop) (h0 : Pv 0 σ0 H0) (hgo : ∀ i σ H, i < n → Pv i σ H → J.go i H) (hst : ∀ σ H, Pv n σ H → J.stop n H)
    (hs : ∀ i σ H x H'', i < n → Pv i σ H → J.yld i H x H'' → g x σ H'' fun σ2 H2 => tt σ2 H2 fun b H3 => if b = true then te σ2 H3 fun v H4 => ∃ zs, H4 D = some (.lst zs) ∧ zs.length < sizeLine ∧ Pv (i + 1) σ2 (upd H4 D (.lst (zs ++ [v]))) else Pv (i + 1) σ2 H3)
    (hd : ∀ σ H, Pv n σ H → Z H) :
    ∃ W : Nat → Nat → St → Hp → Prop, (∃ m, W 0 m σ0 H0) ∧
      ∀ i m σ' H', W i m σ' H' → (J.stop i H' ∧ Z H') ∨ (J.go i H' ∧ ∃ Nn : St → Hp → Prop, (∀ σ'' H'', Nn σ'' H'' → ∃ m', m' < m ∧ W (i + 1) m' σ'' H'') ∧
        ∀ x H'', J.yld i H' x H'' → g x σ' H'' fun σ2 H2 => tt σ2 H2 fun b H3 => if b = true then te σ2 H3 fun v H4 => ∃ zs, H4 D = some (.lst zs) ∧ zs.length < sizeLine ∧ Nn σ2 (upd H4 D (.lst (zs ++ [v]))) else Nn σ2 H3) := by
  refine ⟨fun i m σ H => m = n - i ∧ i ≤ n ∧ Pv i σ H, ⟨n, by simp, Nat.zero_le _, h0⟩, ?_⟩
  rintro i m σ H ⟨rfl, hi, p⟩
  by_cases hlt : i < n
  · exact .inr ⟨hgo i σ H hlt p, Pv (i + 1), fun σ' H' p' => ⟨n - (i + 1), by omega, rfl, hlt, p'⟩, fun x H'' y => hs i σ H x H'' hlt p y⟩
  · have e : i = n := by omega
    subst e
    exact .inl ⟨hst σ H p, hd σ H p⟩
theorem comp_tup {K : PySem.W.Frag} {a D : Addr} {xs : List V} {g : TG} {tt : TT} {te : TE} {Z : Hp → Prop} {σ0 : St} {H0 : Hp} (Pv : Nat → St → Hp → Prop) (h0 : Pv 0 σ0 H0) (hl : ∀ i σ H, i ≤ xs.length → Pv i σ H → SqT K H a xs)
    (hs : ∀ i x σ H, xs[i]? = some x → Pv i σ H → g x σ H fun σ2 H2 => tt σ2 H2 fun b H3 => if b = true then te σ2 H3 fun v H4 => ∃ zs, H4 D = some (.lst zs) ∧ zs.length < sizeLine ∧ Pv (i + 1) σ2 (upd H4 D (.lst (zs ++ [v]))) else Pv (i + 1) σ2 H3)
    (hd : ∀ σ H, Pv xs.length σ H → Z H) :
    ∃ W : Nat → Nat → St → Hp → Prop, (∃ m, W 0 m σ0 H0) ∧
      ∀ i m σ' H', W i m σ' H' → ((Itt K a).stop i H' ∧ Z H') ∨ ((Itt K a).go i H' ∧ ∃ Nn : St → Hp → Prop, (∀ σ'' H'', Nn σ'' H'' → ∃ m', m' < m ∧ W (i + 1) m' σ'' H'') ∧
        ∀ x H'', (Itt K a).yld i H' x H'' → g x σ' H'' fun σ2 H2 => tt σ2 H2 fun b H3 => if b = true then te σ2 H3 fun v H4 => ∃ zs, H4 D = some (.lst zs) ∧ zs.length < sizeLine ∧ Nn σ2 (upd H4 D (.lst (zs ++ [v]))) else Nn σ2 H3) := by
  refine comp_items (n := xs.length) Pv h0 (fun i σ H hi p => ⟨xs, xs[i], hl i σ H (Nat.le_of_lt hi) p, by simp [hi]⟩) (fun σ H p => ⟨xs, hl _ σ H (Nat.le_refl _) p, Nat.le_refl _⟩) (fun i σ H x H'' hi p y => ?_) hd
  obtain ⟨e, y⟩ := y
  subst e
  exact hs i x σ _ (y xs (hl i σ _ (Nat.le_of_lt hi) p)) p
theorem comp_list {K : PySem.W.Frag} {a D : Addr} {xs : List V} {g : TG} {tt : TT} {te : TE} {Z : Hp → Prop} {σ0 : St} {H0 : Hp} (Pv : Nat → St → Hp → Prop) (h0 : Pv 0 σ0 H0) (hl : ∀ i σ H, i ≤ xs.length → Pv i σ H → SqL K H a xs)
    (hs : ∀ i x σ H, xs[i]? = some x → Pv i σ H → g x σ H fun σ2 H2 => tt σ2 H2 fun b H3 => if b = true then te σ2 H3 fun v H4 => ∃ zs, H4 D = some (.lst zs) ∧ zs.length < sizeLine ∧ Pv (i + 1) σ2 (upd H4 D (.lst (zs ++ [v]))) else Pv (i + 1) σ2 H3)
    (hd : ∀ σ H, Pv xs.length σ H → Z H) :
    ∃ W : Nat → Nat → St → Hp → Prop, (∃ m, W 0 m σ0 H0) ∧
      ∀ i m σ' H', W i m σ' H' → ((Itl K a).stop i H' ∧ Z H') ∨ ((Itl K a).go i H' ∧ ∃ Nn : St → Hp → Prop, (∀ σ'' H'', Nn σ'' H'' → ∃ m', m' < m ∧ W (i + 1) m' σ'' H'') ∧
        ∀ x H'', (Itl K a).yld i H' x H'' → g x σ' H'' fun σ2 H2 => tt σ2 H2 fun b H3 => if b = true then te σ2 H3 fun v H4 => ∃ zs, H4 D = some (.lst zs) ∧ zs.length < sizeLine ∧ Nn σ2 (upd H4 D (.lst (zs ++ [v]))) else Nn σ2 H3) := by
  refine comp_items (n := xs.length) Pv h0 (fun i σ H hi p => ⟨xs, xs[i], hl i σ H (Nat.le_of_lt hi) p, by simp [hi]⟩) (fun σ H p => ⟨xs, hl _ σ H (Nat.le_refl _) p, Nat.le_refl _⟩) (fun i σ H x H'' hi p y => ?_) hd
  obtain ⟨e, y⟩ := y
  subst e
  exact hs i x σ _ (y xs (hl i σ _ (Nat.le_of_lt hi) p)) p
theorem comp_range {lo : Int} {n : Nat} {D : Addr} {g : TG} {tt : TT} {te : TE} {Z : Hp → Prop} {σ0 : St} {H0 : Hp} (Pv : Nat → St → Hp → Prop) (h0 : Pv 0 σ0 H0)
    (hs : ∀ i σ H, i < n → Pv i σ H → g (.int (lo + i)) σ H fun σ2 H2 => tt σ2 H2 fun b H3 => if b = true then te σ2 H3 fun v H4 => ∃ zs, H4 D = some (.lst zs) ∧ zs.length < sizeLine ∧ Pv (i + 1) σ2 (upd H4 D (.lst (zs ++ [v]))) else Pv (i + 1) σ2 H3)
    (hd : ∀ σ H, Pv n σ H → Z H) :
    ∃ W : Nat → Nat → St → Hp → Prop, (∃ m, W 0 m σ0 H0) ∧
      ∀ i m σ' H', W i m σ' H' → ((Itr lo n).stop i H' ∧ Z H') ∨ ((Itr lo n).go i H' ∧ ∃ Nn : St → Hp → Prop, (∀ σ'' H'', Nn σ'' H'' → ∃ m', m' < m ∧ W (i + 1) m' σ'' H'') ∧
        ∀ x H'', (Itr lo n).yld i H' x H'' → g x σ' H'' fun σ2 H2 => tt σ2 H2 fun b H3 => if b = true then te σ2 H3 fun v H4 => ∃ zs, H4 D = some (.lst zs) ∧ zs.length < sizeLine ∧ Nn σ2 (upd H4 D (.lst (zs ++ [v]))) else Nn σ2 H3) := by
  refine comp_items (n := n) Pv h0 (fun i σ H hi p => hi) (fun σ H p => Nat.le_refl _) (fun i σ H x H'' hi p y => ?_) hd
  obtain ⟨e, y⟩ := y
  subst e y
  exact hs i σ _ hi p
end L2

set_option maxHeartbeats 4000000
namespace L2
open PySem PySem.Spec PyProof.Rows
/-! ### an exception in flight: its object at e, of the class cl, its own dict dd, its traceback's head at T (field 3 of it: fl) -/
def Trail (h : Heap) (e : Addr) (cl : Value) (dd : Option Addr) (T : Addr) (fl : Value) : Prop :=
  ∃ oe vs oT ts, h.get? e = some oe ∧ oe.cls = cl ∧ oe.dict = dd ∧ oe.data = .fields vs ∧ vs[1]? = some (.ref T) ∧ T ≠ e ∧ h.get? T = some oT ∧ oT.data = .fields ts ∧ ts[3]? = some fl
/-- .. not yet noted anywhere -/
def Raw (h : Heap) (e : Addr) (cl : Value) (dd : Option Addr) : Prop :=
  ∃ oe vs, h.get? e = some oe ∧ oe.cls = cl ∧ oe.dict = dd ∧ oe.data = .fields vs ∧ vs[1]? = some .none
/-- nothing but the objects of S and the slots of the frames fs differs; what was there is there -/
structure Diff (S fs : List Addr) (h h' : Heap) : Prop where
  keep : ∀ b o, b ∉ S → b ∉ fs → h.get? b = some o → h'.get? b = some o
  slot : ∀ b o, b ∉ S → b ∈ fs → h.get? b = some o → ∃ sl, h'.get? b = some { o with slots := sl }
  there : ∀ b o, h.get? b = some o → ∃ o', h'.get? b = some o'
theorem Diff.trans {S S' fs : List Addr} {h h1 h2 : Heap} (a : Diff S fs h h1) (b : Diff S' fs h1 h2) : Diff (S ++ S') fs h h2 := by
  refine ⟨fun c o hs hf q => b.keep c o (fun z => hs (List.mem_append_right _ z)) hf (a.keep c o (fun z => hs (List.mem_append_left _ z)) hf q), fun c o hs hf q => ?_, fun c o q => ?_⟩
  · obtain ⟨sl, q1⟩ := a.slot c o (fun z => hs (List.mem_append_left _ z)) hf q
    obtain ⟨sl', q2⟩ := b.slot c _ (fun z => hs (List.mem_append_right _ z)) hf q1
    exact ⟨sl', q2⟩
  · obtain ⟨o1, q1⟩ := a.there c o q
    exact b.there c o1 q1
theorem Diff.upd {fs : List Addr} {h : Heap} {a : Addr} {o : Obj} {f : Obj → Obj} (ho : h.get? a = some o) (hf : (f o).isFreed = false) : Diff [a] fs h (h.update a f) := by
  refine ⟨fun b o' hs _ q => ?_, fun b o' hs _ q => ⟨o'.slots, ?_⟩, fun b o' q => ?_⟩
  · rw [Heap.get?_update_other _ _ (fun z => hs (by simp [z]))]; exact q
  · rw [Heap.get?_update_other _ _ (fun z => hs (by simp [z]))]; exact q
  · by_cases z : b = a
    · subst z
      exact ⟨_, Heap.get?_update_self _ ho hf⟩
    · rw [Heap.get?_update_other _ _ (Ne.symm z)]; exact ⟨o', q⟩
section
variable {M : Model} {A : Around} {E : Value → Shared → Prop} {s : Shared}
/-- the frame's row is put ahead of the traceback -/
theorem fly_entry {base : Heap} {env : Env} {outer : List Env} {L e : Addr} {oe : Obj} {vs : Array Value} {head : Value} {more : Bool} {Q : Unit → Shared → Prop}
    (hfr : A.frames = some (env :: outer)) (hl : s.heap.FunFrames base (env :: outer)) (hf : env.frame = some L) (he : s.heap.get? e = some oe) (hd : oe.data = .fields vs) (hsz : 1 < vs.size)
    (k : ∀ h' T, s.heap.objs.size ≤ T → Diff [e] (frs (env :: outer)) s.heap h' → Trail h' e oe.cls oe.dict T (rawInt L) → Q () { s with heap := h' }) :
    wpAny M A (do let a ← frameOf env; let pl ← entryPlaceOf L more; let b ← EntryCells.newEntry head a .none (rawInt L) .none pl; setField (.ref e) 1 b) Q E s := by
  have nef : e ∉ frs (env :: outer) := fun hm => by
    obtain ⟨_, o, q, nf⟩ := hl.mem hm
    rw [he] at q; cases q; exact nf vs hd
  refine wpAny_bind (wpAny_frameOf_fun hfr hl hf fun g1 x1 => wpAny_bind (wpAny_entryPlaceOf fun row hrow => ?_))
  unfold EntryCells.newEntry newFields
  refine wpAny_bind (wpAny_newObj_type ?_ (hrow.sizeOk5 _ _ _ _ _))
  have e1 : g1.get? e = some oe := (x1.2.1 e nef).trans he
  generalize hN : ({ cls := .type "traceback", dict := none, data := .fields ([head, .ref L, .none, rawInt L, .none] ++ (if row.isEmpty then List.replicate 6 Value.none else row)).toArray } : Obj) = tbo
  have e2 : (g1.push tbo).get? e = some oe := Heap.get?_push_of_some _ e1
  refine wpAny_setField e2 hd hsz ?_
  have hfd : ((Obj.mapFields (·.setIfInBounds 1 (Value.ref g1.objs.size))) oe).isFreed = false := Obj.isFreed_of_fields (Obj.data_mapFields hd _)
  have e3 := Heap.get?_update_self (Obj.mapFields (·.setIfInBounds 1 (Value.ref g1.objs.size))) e2 hfd
  have ne : g1.objs.size ≠ e := Nat.ne_of_gt (Heap.lt_size e1)
  have D1 : Diff [] (frs (env :: outer)) s.heap g1 := ⟨fun b o _ hb q => (x1.2.1 b hb).trans q, fun b o _ _ q => x1.2.2 b o q, fun b o q => by obtain ⟨sl, r⟩ := x1.2.2 b o q; exact ⟨_, r⟩⟩
  have D2 : Diff [] (frs (env :: outer)) g1 (g1.push tbo) := ⟨fun b o _ _ q => Heap.get?_push_of_some _ q, fun b o _ _ q => ⟨o.slots, Heap.get?_push_of_some _ q⟩, fun b o q => ⟨o, Heap.get?_push_of_some _ q⟩⟩
  have D3 : Diff [e] (frs (env :: outer)) (g1.push tbo) _ := Diff.upd (f := Obj.mapFields (·.setIfInBounds 1 (Value.ref g1.objs.size))) e2 hfd
  refine k _ g1.objs.size (Nat.le_of_eq x1.1.symm) ((D1.trans D2).trans D3) ⟨_, _, tbo, _, e3, Obj.cls_mapFields _ _, ?_, Obj.data_mapFields hd _, by simp [hsz], ne, ?_, (by rw [← hN]), ?_⟩
  · obtain ⟨c, d, dt, sl⟩ := oe; cases dt <;> rfl
  · rw [Heap.get?_update_other _ _ (Ne.symm ne)]
    exact Heap.get?_push_size _ (by rw [← hN]; rfl)
  · first | (simp; done) | (rcases hrow with rfl | ⟨_, _, _, _, _, _, _, rfl⟩ <;> simp)
/-- noteFrame, the first time -/
theorem fly_note0 {base : Heap} {env : Env} {outer : List Env} {L e : Addr} {cl : Value} {dd : Option Addr} {Q : Unit → Shared → Prop}
    (hfr : A.frames = some (env :: outer)) (hl : s.heap.FunFrames base (env :: outer)) (hf : env.frame = some L) (R : Raw s.heap e cl dd)
    (k : ∀ h' T, s.heap.objs.size ≤ T → Diff [e] (frs (env :: outer)) s.heap h' → Trail h' e cl dd T (rawInt L) → Q () { s with heap := h' }) : wpAny M A (noteFrame (.ref e) env) Q E s := by
  obtain ⟨oe, vs, he, rfl, rfl, hd, h1⟩ := R
  unfold noteFrame
  simp only [hf]
  refine wpAny_bind (wpAny_field he hd h1 ?_)
  rw [if_neg (by decide)]
  exact fly_entry hfr hl hf he hd (Array.getElem?_eq_some_iff.mp h1).1 k
/-- .. in a further frame -/
theorem fly_note {base : Heap} {env : Env} {outer : List Env} {L e T : Addr} {cl : Value} {dd : Option Addr} {Q : Unit → Shared → Prop}
    (hfr : A.frames = some (env :: outer)) (hl : s.heap.FunFrames base (env :: outer)) (hf : env.frame = some L) (R : Trail s.heap e cl dd T .none)
    (k : ∀ h' T', s.heap.objs.size ≤ T' → Diff [T, e] (frs (env :: outer)) s.heap h' → Trail h' e cl dd T' (rawInt L) → Q () { s with heap := h' }) : wpAny M A (noteFrame (.ref e) env) Q E s := by
  obtain ⟨oe, vs, oT, ts, he, rfl, rfl, hd, h1, nTe, hT, hdT, h3⟩ := R
  unfold noteFrame
  simp only [hf]
  refine wpAny_bind (wpAny_field he hd h1 ?_)
  rw [if_pos (show (Value.ref T != Value.none) = true from by simp)]
  refine wpAny_bind (wpAny_field hT hdT h3 ?_)
  rw [if_neg (show ¬ ((Value.none == rawInt L) = true) from by simp [rawInt])]
  refine wpAny_bind (wpAny_setField hT hdT (Array.getElem?_eq_some_iff.mp h3).1 ?_)
  have hfd : ((Obj.mapFields (·.setIfInBounds 3 Value.none)) oT).isFreed = false := Obj.isFreed_of_fields (Obj.data_mapFields hdT _)
  have D : Diff [T] (frs (env :: outer)) s.heap (s.heap.update T (Obj.mapFields (·.setIfInBounds 3 Value.none))) := Diff.upd hT hfd
  have other : ∀ b, b ≠ T → (s.heap.update T (Obj.mapFields (·.setIfInBounds 3 Value.none))).get? b = s.heap.get? b := fun b hb => Heap.get?_update_other _ _ (Ne.symm hb)
  have hl' : (s.heap.update T (Obj.mapFields (·.setIfInBounds 3 Value.none))).FunFrames base (env :: outer) := hl.of_keeps fun b o q nf => ⟨o, (other b fun z => by rw [z, hT] at q; cases q; exact nf ts hdT).trans q, rfl⟩
  refine fly_entry (s := { s with heap := s.heap.update T (Obj.mapFields (·.setIfInBounds 3 Value.none)) }) hfr hl' hf ((other e (Ne.symm nTe)).trans he) hd (Array.getElem?_eq_some_iff.mp h1).1 fun h' T' hz D' tr => ?_
  refine k h' T' ?_ (D.trans D') tr
  have : (s.heap.update T (Obj.mapFields (·.setIfInBounds 3 Value.none))).objs.size = s.heap.objs.size := (Heap.SameBut.update s.heap T _).1
  rw [← this]; exact hz
/-- setFlight .. none -/
theorem fly_land {e T : Addr} {cl fl : Value} {dd : Option Addr} {fs : List Addr} {Q : Unit → Shared → Prop} (R : Trail s.heap e cl dd T fl)
    (k : ∀ h', h'.objs.size = s.heap.objs.size → Diff [T] fs s.heap h' → Trail h' e cl dd T .none → Q () { s with heap := h' }) : wpAny M A (setFlight (.ref e) none) Q E s := by
  obtain ⟨oe, vs, oT, ts, he, hc, hdd, hd, h1, nTe, hT, hdT, h3⟩ := R
  have hz : 3 < ts.size := (Array.getElem?_eq_some_iff.mp h3).1
  unfold setFlight
  refine wpAny_bind (wpAny_field he hd h1 ?_)
  rw [if_pos (show (Value.ref T != Value.none) = true from by simp)]
  have hfd : ((Obj.mapFields (·.setIfInBounds 3 ((none : Option Addr).elim Value.none fun f => rawInt f))) oT).isFreed = false := Obj.isFreed_of_fields (Obj.data_mapFields hdT _)
  refine wpAny_setField hT hdT hz (k _ (Heap.SameBut.update s.heap T _).1 (Diff.upd hT hfd) ⟨oe, vs, _, _, ?_, hc, hdd, hd, h1, nTe, Heap.get?_update_self _ hT hfd, Obj.data_mapFields hdT _, by simp [hz]⟩)
  rw [Heap.get?_update_other _ _ nTe]
  exact he
end
end L2

set_option maxHeartbeats 4000000
namespace L2
open PySem PySem.Spec PyProof.Rows
/-! ### how an exception lies behind a call -/
def CXE (P : Program) (w : World) : CXT := fun outer H s E ev s' => ∃ (e T : Addr) (cl : Value) (dd : Option Addr) (H' : Hp), ev = .ref e ∧ s'.os = s.os ∧ AllBare s'.gens ∧ Un (frs outer) [] H H' s.heap s'.heap ∧ HOk P w H' s'.heap ∧
  Trail s'.heap e cl dd T .none ∧ s.heap.get? e = none ∧ s.heap.get? T = none ∧ H' e = none ∧ H' T = none ∧ E cl dd H'
theorem un_diff {fs fs' S ex : List Addr} {H H' : Hp} {h h1 h2 : Heap} {L : Addr} (u : Un fs ex H H' h h1) (d : Diff S fs' h1 h2) (hS : ∀ b ∈ S, h.get? b = none) (hf : ∀ b ∈ fs', b = L ∨ b ∈ fs) (hL : h.get? L = none) : Un fs ex H H' h h2 := by
  have nS : ∀ b o, h.get? b = some o → b ∉ S := fun b o q z => by rw [hS b z] at q; cases q
  have nF : ∀ b o, h.get? b = some o → b ∉ fs → b ∉ fs' := fun b o q n z => by
    rcases hf b z with rfl | y
    · rw [hL] at q; cases q
    · exact n y
  refine ⟨fun b o q n hb hx => d.keep b o (nS b o q) (nF b o q hb) (u.keep b o q n hb hx), fun b o q n hb hx => ?_, u.free, fun b o q hx => ?_, u.tups, u.frzs, u.tbls⟩
  · obtain ⟨sl, q1⟩ := u.slot b o q n hb hx
    by_cases z : b ∈ fs'
    · obtain ⟨sl', q2⟩ := d.slot b _ (nS b o q) z q1
      exact ⟨sl', q2⟩
    · exact ⟨sl, d.keep b _ (nS b o q) z q1⟩
  · obtain ⟨o1, q1⟩ := u.there b o q hx
    exact d.there b o1 q1
theorem hok_diff {P : Program} {w : World} {fs S : List Addr} {H : Hp} {h h' : Heap} (x : HOk P w H h) (d : Diff S fs h h') (hS : ∀ b ∈ S, H b = none) (hf : ∀ b ∈ fs, H b = none) : HOk P w H h' := fun b o q => by
  refine (x b o q).stay (fun c u hc r => d.keep c u ?_ ?_ r) (fun _ z => z) fun _ _ z => z
  · intro z
    rcases hc with y | y
    · rw [y] at z; rw [hS b z] at q; cases q
    · rw [hS c z] at y; cases y
  · intro z
    rcases hc with y | y
    · rw [y] at z; rw [hf b z] at q; cases q
    · rw [hf c z] at y; cases y
section
variable {P : Program} {w : World} {K : PySem.W.Frag} {mg : Str → Option Value} {base : Heap} {N : List Str} {qual : Str} {scope : Scope} {f : Addr} {cd : Value} {A : Around} {outer : List Env} {s0 : Shared} {H0 : Hp} {E : XK}
abbrev cxE (P : Program) (w : World) (K : PySem.W.Frag) (mg : Str → Option Value) (base : Heap) (N : List Str) (qual : Str) (scope : Scope) (f : Addr) (cd : Value) (A : Around) (outer : List Env) (s0 : Shared) (H0 : Hp) (E : XK) : Cx := cxOf (CXE P w) P w K mg base N qual scope f cd A outer s0 H0 E
/-- the exception leaves this body's frame -/
theorem leave_of {pins : List (Addr × Obj)} {σ : St} {H : Hp} {s : Shared} {e T : Addr} {cl : Value} {dd : Option Addr} {S : List Addr} {h1 : Heap} (I : Inv (cxE P w K mg base N qual scope f cd A outer s0 H0 E) pins σ H s) (hz : s.heap.objs.size ≤ T)
    (D : Diff S (frs (envOfC qual scope s0.heap.objs.size f cd :: outer)) s.heap h1) (tr : Trail h1 e cl dd T (rawInt s0.heap.objs.size)) (hS : ∀ b ∈ S, s0.heap.get? b = none ∧ H b = none) (he : e ∈ S) (q : E cl dd H) :
    wpAny (model P w) (A.deeper (envOfC qual scope s0.heap.objs.size f cd)) (setFlight (.ref e) none) (fun _ s'' => CXE P w outer H0 s0 E (.ref e) s'') (fun e' s'' => CXE P w outer H0 s0 E e' s'') { s with heap := h1 } := by
  have hsz : s0.heap.objs.size ≤ s.heap.objs.size := I.sz
  have hT0 : s0.heap.get? T = none := Heap.get?_none_of_le (Nat.le_trans hsz hz)
  have hTH : H T = none := I.hok.fresh hz
  refine fly_land (fs := frs (envOfC qual scope s0.heap.objs.size f cd :: outer)) tr fun h2 _ D2 tr2 => ?_
  have DD := D.trans D2
  have hSS : ∀ b ∈ S ++ [T], s0.heap.get? b = none ∧ H b = none := fun b hb => by
    rcases List.mem_append.mp hb with z | z
    · exact hS b z
    · have z : b = T := by simpa using z
      subst z
      exact ⟨hT0, hTH⟩
  refine ⟨e, T, cl, dd, H, rfl, I.os, I.bare, un_diff (L := s0.heap.objs.size) I.base DD (fun b hb => (hSS b hb).1) (fun b hb => ?_) (Heap.get?_none_of_le (Nat.le_refl _)), hok_diff I.hok DD (fun b hb => (hSS b hb).2) (fun b hb => I.stkFree b hb), tr2, (hS e he).1, hT0, (hS e he).2, hTH, q⟩
  have := I.stkSub b hb
  exact List.mem_cons.mp this
/-- raised here -/
theorem xe_raw {pins : List (Addr × Obj)} {σ : St} {H : Hp} {s : Shared} {e : Addr} {cl : Value} {dd : Option Addr} (I : Inv (cxE P w K mg base N qual scope f cd A outer s0 H0 E) pins σ H s) (R : Raw s.heap e cl dd) (he : s0.heap.get? e = none) (hH : H e = none) (q : E cl dd H) :
    (cxE P w K mg base N qual scope f cd A outer s0 H0 E).xe (.ref e) s := by
  show wpAny (model P w) (A.deeper (envOfC qual scope s0.heap.objs.size f cd)) (leaving (envOfC qual scope s0.heap.objs.size f cd) (.ref e)) _ _ s
  unfold leaving
  refine wpAny_bind (fly_note0 (base := base) I.ok.frames I.stack rfl R fun h1 T hz D tr => ?_)
  exact leave_of I hz D tr (fun b hb => by have z : b = e := by simpa using hb
                                           subst z; exact ⟨he, hH⟩) (by simp) q
/-- come from a callee -/
theorem passE {E' : XK} (h : ∀ cl dd H, E' cl dd H → E cl dd H) : Passes (CXE P w) (cxE P w K mg base N qual scope f cd A outer s0 H0 E) E' := by
  intro pins σ H s ev s' I hx
  obtain ⟨e, T, cl, dd, H', rfl, ho, hg, un, hok, tr, he, hT, hHe, hHT, q⟩ := hx
  have I' : Inv (cxE P w K mg base N qual scope f cd A outer s0 H0 E) pins σ H' s' := I.call' (ch := []) ho un hok hg fun b z => absurd z (by simp)
  have old : ∀ b, s.heap.get? b = none → s0.heap.get? b = none := fun b z => by
    cases y : s0.heap.get? b with
    | none => rfl
    | some o =>
      obtain ⟨o', r⟩ := I.base.there b o y (by intro m; exact absurd (show b ∈ ([] : List Addr) from m) (by simp))
      rw [z] at r; cases r
  show wpAny (model P w) (A.deeper (envOfC qual scope s0.heap.objs.size f cd)) (leaving (envOfC qual scope s0.heap.objs.size f cd) (.ref e)) _ _ s'
  unfold leaving
  refine wpAny_bind (fly_note (base := base) I'.ok.frames I'.stack rfl tr fun h1 T' hz D tr' => ?_)
  refine leave_of I' hz D tr' (fun b hb => ?_) (by simp) (h _ _ _ q)
  rcases List.mem_cons.mp hb with z | z
  · subst z
    exact ⟨old _ hT, hHT⟩
  · have z : b = e := by simpa using z
    subst z
    exact ⟨old _ he, hHe⟩
/-- a loop lets it through -/
theorem passLoop : PassesOwn (model (cxE P w K mg base N qual scope f cd A outer s0 H0 E).prog (cxE P w K mg base N qual scope f cd A outer s0 H0 E).w) (cxE P w K mg base N qual scope f cd A outer s0 H0 E).A (cxE P w K mg base N qual scope f cd A outer s0 H0 E).env (cxE P w K mg base N qual scope f cd A outer s0 H0 E).xe := PassesOwn.leaving
end
/-- THE RULE for a def that may let an exception out -/
theorem DefIn.okX {P : Program} {w : World} {K : PySem.W.Frag} {mg : Str → Option Value} {base : Heap} {x : Str} {st : Stmt} {N ps : List Str} {k : Nat} {sp : Sp} (F : DefIn K mg x st ps) (S : FnScope N ps (defScope st)) (len : ∀ vs H Q E, sp vs H Q E → vs.length = ps.length)
    (hbody : ∀ (f : Addr) (cdv : Value) (A : Around) (outer : List Env) (s : Shared) (H : Hp) (vs : List V) (Q : VK) (E : XK), Room k (A.deeper (envOfC x (defScope st) s.heap.objs.size f cdv)) → sp vs H Q E →
      ∃ t, PSs (cxE P w K mg base N x (defScope st) f cdv A outer s H E) (defBody st) t ∧ t { nx := fun _ H' => Q .non H', rt := Q } (start N vs) H) : OkD P w K mg base (CXE P w) (k + 1) x ps sp := by
  obtain ⟨f, fd, h1, h2, h3⟩ := F
  obtain ⟨oc, od, kV, doc, pm, an, cdv, ct, osl, rfl, lk, hcd⟩ := h2.ex
  exact ⟨f, _, h1, h2.kp, h3, fn_of lk hcd S len (hbody f cdv)⟩
end L2

set_option maxHeartbeats 4000000
namespace L2
open PySem PySem.Spec PyProof.Rows
/-! ### an own exception class whose bases are own classes and then ValueError -/
/-- the class object; bm: what stands behind it in its order -/
structure XCls (h : Heap) (C : Addr) (bm : List Value) : Prop where
  ob : ∃ nm q N bs hdct sn sub ab col dd k0 k1 k2 k3 k5, h.get? C = some (excClassObj nm q C N bs bm hdct sn sub ab col dd k0 k1 k2 k3 k5 "ValueError.__new__")
  va : bm.contains (.type "ValueError") = true
  ba : bm.contains (.type "BaseException") = true
  na : bm.contains (.type "AttributeError") = false
  nn : bm.contains (.type "NameError") = false
theorem XCls.keeps {h h' : Heap} {C : Addr} {bm : List Value} (x : XCls h C bm) (k : ∀ b o, h.get? b = some o → h'.get? b = some o) : XCls h' C bm := by
  obtain ⟨⟨nm, q, N, bs, hdct, sn, sub, ab, col, dd, k0, k1, k2, k3, k5, e⟩, a, b, c, d⟩ := x
  exact ⟨⟨nm, q, N, bs, hdct, sn, sub, ab, col, dd, k0, k1, k2, k3, k5, k _ _ e⟩, a, b, c, d⟩
theorem hasC {C : Addr} {bm : List Value} {T : String} {v : Bool} (h : bm.contains (.type T) = v) : (Value.ref C :: bm).contains (.type T) = v := by
  rw [List.contains_cons, h]; rfl
section
variable {prog : Program} {w : World} {A : Around} {E : Value → Shared → Prop} {h : Heap} {g : Array GenState} {d : Drawn} {t : Nat} {os : OsState} {C : Addr} {bm : List Value}
theorem x_check_new {rest : List Value} {Q : Unit → Shared → Prop} (x : XCls h C bm) (hq : Q () ⟨h, g, d, t, os⟩) : wpAny (model prog w) A (checkBuiltinCall "ValueError.__new__" ⟨.ref C :: rest, []⟩) Q E ⟨h, g, d, t, os⟩ := by
  obtain ⟨⟨nm, q, N, bs, hdct, sn, sub, ab, col, dd, k0, k1, k2, k3, k5, hC⟩, hv, _, _, _⟩ := x
  have F := PySem.F.excBase_ValueError
  have hcv := hasC (C := C) hv
  have star := F.noStar
  simp only [checkBuiltinCall, F.newKind, F.newSplit, F.newRow]
  repeat (first | (refine wpAny_isSubtype_exc hC ?_; rw [hcv]) | refine wpAny_madeBy_exc hC ?_ | refine wpAny_staticBase_exc hC ?_ | refine wpAny_loadPart_at hC ?_ | simp only [bne_self_eq_false, Bool.false_eq_true, if_false] | wp_step)
  exact hq
theorem x_new {rest : List Value} {R : Result → Shared → Prop} (x : XCls h C bm) (hz : rest.length ≤ sizeLine)
    (hq : R (.ok (.ret (.ref (h.objs.size + 1)))) ⟨(h.push { cls := .type "tuple", data := .seq rest.toArray }).push { cls := .ref C, data := .fields #[.ref h.objs.size, .none, .none, .none, .bool false, .none] }, g, d, t, os⟩) :
    codeAny (model prog w) A (.builtin "ValueError.__new__" ⟨.ref C :: rest, []⟩) R ⟨h, g, d, t, os⟩ := by
  obtain ⟨⟨nm, q, N, bs, hdct, sn, sub, ab, col, dd, k0, k1, k2, k3, k5, hC⟩, hv, _, ha, hn⟩ := x
  have F := PySem.F.excBase_ValueError
  have ends := F.ends
  have hcv := hasC (C := C) hv
  have hca := hasC (C := C) ha
  have hcn := hasC (C := C) hn
  refine codeAny_builtinAt F.entry ?_
  unfold Builtin.«BaseException.__new__»
  refine PySem.wpAt_bind ?_
  show PySem.wpAt _ _ _ (stack >>= _) _ _ _
  refine PySem.wpAt_bind (PySem.wpAt_stack fun _ _ => PySem.wpAt_of_wpAny ?_)
  wp_walk
  refine PySem.wpAt_of_wpAny ?_
  rw [F.owner]
  repeat (first | with_reducible refine wpAny_loadPart_at hC ?_ | with_reducible refine wpAny_madeHere_exc F.canon hC ?_ | (with_reducible refine wpAny_isSubtype_exc hC ?_; first | rw [hcv] | rw [hca] | rw [hcn]) | wp_step)
  show R _ _
  rw [Heap.size_push]
  exact hq
/-- C(..) with an own __init__ at fI -/
theorem x_call_init {rest : List Value} {fI : Addr} {oI : Obj} {Q : Value → Shared → Prop} (x : XCls h C bm) (hi : ∀ h', (∀ b o, h.get? b = some o → h'.get? b = some o) → PySem.W.Looks (model prog w) h' (typeLookup (.ref C) "__init__") (some (.ref fI)))
    (hf : h.get? fI = some oI) (hfc : oI.cls = .type "function") (hz : rest.length ≤ sizeLine)
    (hq : ∀ h' e, h.objs.size ≤ e → Heap.MadeExcOf h h' e (.ref C) rest → wpAny (model prog w) (A.under (.builtin "type.__call__" ⟨.ref C :: rest, []⟩)) (call (.ref fI) (.ref e :: rest)) (fun r s' => r = .none ∧ Q (.ref e) s') E ⟨h', g, d, t, os⟩) :
    wpAny (model prog w) A (call (.ref C) rest) Q E ⟨h, g, d, t, os⟩ := by
  have y := id x
  obtain ⟨⟨nm, q, N, bs, hdct, sn, sub, ab, col, dd, k0, k1, k2, k3, k5, hC⟩, _, _, _, _⟩ := y
  have f1 := tc_lookup
  have f2 := tc_bind (.ref C)
  have F := PySem.F.excBase_ValueError
  have hT : (⟨h, g, d, t, os⟩ : Shared).TypeIs (.ref C) "type" := ⟨_, hC, rfl⟩
  refine wpAny_call (codeAny_of_tree ?_)
  show wpAny _ _ (callAny (.ref C) _) _ _ _
  repeat (any_goals (first | assumption | with_reducible refine wpAny_loadPart_at hC ?_ | wp_step))
  refine ⟨rfl, codeAny_call_builtin_at (Code.quiet_builtin _ (by decide +kernel)) entry_typeCall (wpAny_check_type_call_sub hC ?_)⟩
  repeat (first | with_reducible refine wpAny_madeBy_exc hC ?_ | with_reducible refine wpAny_loadPart_at hC ?_ | wp_step)
  refine codeAny_call_builtin_code (Code.quiet_builtin _ F.quiet) (x_check_new x (x_new x hz ?_))
  show wpAny _ _ _ _ _ ⟨(h.push { cls := .type "tuple", data := .seq rest.toArray }).push { cls := .ref C, data := .fields #[.ref h.objs.size, .none, .none, .none, .bool false, .none] }, g, d, t, os⟩
  generalize hG : (h.push { cls := .type "tuple", data := .seq rest.toArray }).push { cls := .ref C, data := .fields #[.ref h.objs.size, .none, .none, .none, .bool false, .none] } = G
  have kp : ∀ b o, h.get? b = some o → G.get? b = some o := fun b o e => by rw [← hG]; exact Heap.get?_push_of_some _ (Heap.get?_push_of_some _ e)
  have e1 : G.get? (h.objs.size + 1) = some { cls := .ref C, data := .fields #[.ref h.objs.size, .none, .none, .none, .bool false, .none] } := by rw [← hG]; heap_get
  have e2 : G.get? h.objs.size = some { cls := .type "tuple", data := .seq rest.toArray } := by rw [← hG]; exact Heap.get?_push_of_some _ (Heap.get?_push_at rfl rfl)
  have hC1 := kp _ _ hC
  have self : (Value.ref C :: bm).contains (.ref C) = true := by simp
  unfold isInstance
  repeat (first | with_reducible refine wpAny_loadPart_at e1 ?_ | wp_step)
  show wpAny _ _ (isSubtype (.ref C) (.ref C)) _ _ _
  refine wpAny_isSubtype_exc hC1 ?_
  rw [self]
  repeat (first | with_reducible refine wpAny_loadPart_at e1 ?_ | wp_step)
  show wpAny _ _ (typeLookup (.ref C) _) _ _ _
  refine (hi G kp).at ?_
  refine wpAny_holding (wpAny_bind ?_)
  unfold bindSpecial
  refine wpAny_bind (wpAny_typeOf (T := "function") ⟨_, kp _ _ hf, hfc⟩ ?_)
  rw [if_pos (by decide)]
  refine wpAny_pure (wpAny_bind (thn (hq G (h.objs.size + 1) (Nat.le_succ _) ⟨kp, Heap.get?_none_of_le (Nat.le_succ _), h.objs.size, e1, Heap.get?_none_of_le (Nat.le_refl _), e2⟩) fun r s' hr => ?_))
  obtain ⟨rfl, hQ⟩ := hr
  wp_walk
  exact hQ
end
end L2

set_option maxHeartbeats 4000000
namespace L2
open PySem PySem.Spec PyProof.Rows
/-- what an own exception class must have for a name to be laid on its objects -/
structure XSet (K : PySem.W.Frag) (C : Addr) (name : Str) : Prop where
  sa : PySem.W.findIn K (.ref C) "__setattr__" = some (some (.builtin "object.__setattr__"))
  cd : ∃ cd : ClassData, PySem.W.clsIn K C = some cd ∧ cd.hasDict = true ∧ ∃ R : Addr, cd.mro = [.ref C, .ref R, .type "ValueError", .type "Exception", .type "BaseException", .type "object"]
  ob : PySem.W.mroIn K C (.type "object") = some true
  no : PySem.W.takerIn K C name = some none
section
variable {prog : Program} {w : World} {A : Around} {E : Value → Shared → Prop} {s : Shared} {K : PySem.W.Frag} {e C : Addr} {oe : Obj} {vs : Array Value} {name : Str} {v : Value}
theorem x_setattr {Q : Unit → Shared → Prop} (X : K.In s.heap) (S : XSet K C name) (hx : s.heap.get? e = some oe) (hcl : oe.cls = .ref C) (hdd : oe.dict = none) (hd : oe.data = .fields vs)
    (hq : ∀ h' tk, h'.get? e = some { oe with dict := some s.heap.objs.size } → h'.Ns1 s.heap.objs.size (fun y => if y = name then some v else none) → (∀ b o, b ≠ e → s.heap.get? b = some o → h'.get? b = some o) → Q () { s with heap := h', toks := tk }) :
    wpAny (model prog w) A (setAttr (.ref e) name v) Q E s := by
  obtain ⟨cd, hc, hhd, R, hmr⟩ := S.cd
  obtain ⟨oc, od, odt, osl⟩ := oe
  dsimp only at hcl hdd hd
  subst hcl hdd hd
  have I : PySem.W.InstAt s.heap e ⟨.ref C, none, .fields vs, osl⟩ C none := ⟨hx, rfl, rfl, trivial⟩
  have SF := PySem.F.store_object
  have sub : PySem.W.Looks (model prog w) s.heap (isInstance (.ref e) (.type "object")) true := (I.type (M := model prog w)).andThen (PySem.W.looks_mroIn X S.ob)
  have mro : PySem.W.Looks (model prog w) s.heap (mroOf (.ref C)) cd.mro := (PySem.W.looks_clsIn X hc).andThen .now
  refine PySem.W.set_plain X I S.sa ?_
  refine codeAny_call_builtin SF.slot.plain SF.entry (@PySem.W.check_slot (model prog w) _ _ { s with toks := s.toks + 1 } "object.__setattr__" "object" "__setattr__" (.ref e) [.str name s.toks, v] [] _ SF.kind SF.split sub (SF.args (.ref e) (.str name s.toks) v) ?_)
  obtain ⟨attr, ha, hr⟩ := Option.bind_eq_some_iff.mp S.no
  have L3 : PySem.W.Looks (model prog w) s.heap (Builtin.ObjectAttr.storeTaker? attr) none := by
    cases attr with
    | none => exact .now
    | some a =>
      obtain ⟨b, hb, hb'⟩ := Option.map_eq_some_iff.mp hr
      refine (PySem.W.looks_takesIn X hb).andThen ?_
      cases b with
      | true => cases hb'
      | false => exact .now
  have pass : refuseLoop (.ref e) "__setattr__" cd.mro = pure () := by
    rw [hmr, refuseLoop_ref, refuseLoop_ref]
    exact PySem.F.store_ValueError.passes (.ref e)
  rw [PySem.W.osa_eq, refuse_eq]
  refine wpAny_bind (wpAny_bind ((I.type (M := model prog w)).at (wpAny_bind (mro.at ?_))))
  rw [pass]
  refine wpAny_pure (wpAny_bind ((I.type (M := model prog w)).at (wpAny_bind ((PySem.W.looks_findIn X ha).at (wpAny_bind (L3.at ?_))))))
  show wpAny _ _ (Builtin.ObjectAttr.storeInOwnDict (.ref e) (.ref C) (.str name s.toks) name v _) _ _ _
  unfold Builtin.ObjectAttr.storeInOwnDict Builtin.ObjectAttr.ownDictForStores instanceDict
  refine wpAny_bind (wpAny_pure (wpAny_bind (wpAny_bind (wpAny_loadPart hx (wpAny_bind ((PySem.W.looks_clsIn X hc).at ?_))))))
  rw [hhd]
  have hxs : e ≠ s.heap.objs.size := Nat.ne_of_lt (Heap.lt_size hx)
  have hx1 : (s.heap.push { cls := .type "dict", data := .dict #[] }).get? e = some ⟨.ref C, none, .fields vs, osl⟩ := Heap.get?_push_of_some _ hx
  refine wpAny_bind (wpAny_alloc (wpAny_bind (wpAny_update hx1 (wpAny_pure ?_))))
  generalize hG : (s.heap.push { cls := .type "dict", data := .dict #[] }).update e (fun o => { o with dict := some s.heap.objs.size }) = G
  have ge : G.get? e = some ⟨.ref C, some s.heap.objs.size, .fields vs, osl⟩ := by rw [← hG]; exact Heap.get?_update_self _ hx1 rfl
  have gd : G.get? s.heap.objs.size = some { cls := .type "dict", data := .dict #[] } := by rw [← hG, Heap.get?_update_ne _ _ _ _ hxs.symm]; exact Heap.get?_push_at rfl rfl
  have gk : ∀ b o, b ≠ e → s.heap.get? b = some o → G.get? b = some o := fun b o hb q => by rw [← hG, Heap.get?_update_ne _ _ _ _ hb]; exact Heap.get?_push_of_some _ q
  have gn : G.Ns s.heap.objs.size (fun _ => none) := ⟨_, #[], _, gd, rfl, fun _ z => absurd z (by simp), fun _ => rfl⟩
  show wpAny _ _ (Builtin.ObjectAttr.storeInDict s.heap.objs.size (.str name s.toks) name v) _ _ _
  unfold Builtin.ObjectAttr.storeInDict Builtin.ObjectAttr.newKeyGuard
  refine wpAny_bind (wpAny_pure (wpAny_bind (wpAny_nsSet1 (s := { s with heap := G, toks := s.toks + 1 }) (Heap.Ns1.of_empty gn) fun h' n' sb => ?_)))
  obtain ⟨oD, esD, epD, q1, q2, q3⟩ := n'.count (Within.cons name v Within.nil)
  refine wpAny_bind (wpAny_lookBehind q1 (by rw [q2]; exact pastItsLine_dict (Nat.le_trans q3 (by rw [List.length_cons, List.length_nil, sizeLine_eq]; decide))) ?_)
  exact wpAny_pure (hq h' _ ((sb.2 e hxs).trans ge) n' fun b o hb q => (sb.2 b (Nat.ne_of_lt (Heap.lt_size q))).trans (gk b o hb q))
end
end L2

set_option maxHeartbeats 4000000
namespace L2
open PySem PySem.Spec PyProof.Rows
/-! ### an exception that is not raised yet, on the abstract heap -/
def XAt (j : Nat) (e C : Addr) (dd : Option Addr) (h : Heap) : Prop := ∃ oe vs t0, h.get? e = some oe ∧ oe.cls = .ref C ∧ oe.dict = dd ∧ oe.data = .fields vs ∧ vs[0]? = some (.ref t0) ∧ vs[1]? = some .none ∧ j ≤ e
abbrev XO (j : Nat) (e C : Addr) (dd : Option Addr) : HO := .ext (XAt j e C dd)
theorem XAt.stable {j : Nat} {e C : Addr} {dd : Option Addr} : ∀ h1 h2 : Heap, XAt j e C dd h1 → (∀ o, h1.get? e = some o → h2.get? e = some o) → XAt j e C dd h2 := fun h1 h2 ⟨oe, vs, t0, q, r⟩ k => ⟨oe, vs, t0, k _ q, r⟩
theorem XAt.raw {j : Nat} {e C : Addr} {dd : Option Addr} {h : Heap} (x : XAt j e C dd h) : Raw h e (.ref C) dd := by
  obtain ⟨oe, vs, t0, q, a, b, c, _, d, _⟩ := x
  exact ⟨oe, vs, q, a, b, c, d⟩
theorem XAt.ok {P : Program} {w : World} {H : Hp} {h : Heap} {j : Nat} {e C : Addr} {dd : Option Addr} (x : XAt j e C dd h) : ObjOk P w H h e (XO j e C dd) := ⟨x, (by obtain ⟨oe, _, _, q, _⟩ := x; exact ⟨oe, q⟩), XAt.stable⟩
theorem upd_eq {H : Hp} {a : Addr} {o : HO} (h : H a = some o) : upd H a o = H := by
  funext b
  by_cases z : b = a
  · subst z; rw [upd_same, h]
  · rw [upd_ne z]
/-- the class in the written part -/
def XClK (K : PySem.W.Frag) (C : Addr) : Prop := ∃ (R : Addr) (nm q : Str) (N : Addr) (bs : List Value) (hdct : Bool) (sn : List Str) (sub : List Value) (ab : Bool) (col : Option Bool) (dd : Option Addr) (k0 k1 k2 k3 k5 : Option Value),
  K.lookup C = some (excClassObj nm q C N bs [.ref R, .type "ValueError", .type "Exception", .type "BaseException", .type "object"] hdct sn sub ab col dd k0 k1 k2 k3 k5 "ValueError.__new__")
theorem XClK.cls {K : PySem.W.Frag} {C : Addr} (x : XClK K C) : ∃ bm, ∀ h, K.In h → XCls h C bm := by
  obtain ⟨R, nm, q, N, bs, hdct, sn, sub, ab, col, dd, k0, k1, k2, k3, k5, e⟩ := x
  exact ⟨_, fun h X => ⟨⟨nm, q, N, bs, hdct, sn, sub, ab, col, dd, k0, k1, k2, k3, k5, X _ _ e⟩, rfl, rfl, rfl, rfl⟩⟩
section
variable {prog : Program} {w : World} {A : Around} {E : Value → Shared → Prop} {s : Shared} {C e : Addr} {bm : List Value} {oe : Obj} {vs : Array Value} {t0 : Addr}
theorem x_init {rest : List Value} {Q : Value → Shared → Prop} (x : XCls s.heap C bm) (hx : s.heap.get? e = some oe) (hcl : oe.cls = .ref C) (hd : oe.data = .fields vs) (h0 : vs[0]? = some (.ref t0)) (hz : rest.length ≤ sizeLine)
    (hq : Q .none { s with heap := (s.heap.push { cls := .type "tuple", data := .seq rest.toArray }).update e (Obj.mapFields (·.setIfInBounds 0 (.ref s.heap.objs.size))) }) :
    wpAny (model prog w) A (call (.builtin "ValueError.__init__") (.ref e :: rest)) Q E s := by
  obtain ⟨⟨nm, q, N, bs, hdct, sn, sub, ab, col, dd, k0, k1, k2, k3, k5, hC⟩, hv, _, _, _⟩ := x
  have F := PySem.F.excBase_ValueError
  have hcv := hasC (C := C) hv
  have short := F.noStar
  obtain ⟨hp, g, d, tk, os⟩ := s
  refine wpAny_call (codeAny_call_builtin F.init.plain F.initEntry ?_)
  simp only [checkBuiltinCall, F.initKind, F.initSplit, F.initRow]
  repeat (first | with_reducible refine wpAny_loadPart_at hC ?_ | (with_reducible refine wpAny_loadPart_at hx ?_; rw [hcl]) | (with_reducible refine wpAny_isSubtype_exc hC ?_; rw [hcv]) | wp_step)
  refine wpAny_onRaise ?_
  rw [show ∀ (a b : String) (n : Nat), Bind.check ⟨.positional, "*", "ValueError", .self, [⟨"args", .varPos, false⟩]⟩ a b n (List.map (fun y => y.fst) ({ pos := Value.ref e :: rest } : Args).kw) = pure () from fun a b n => check_star_args _ _ _ _ _ _]
  refine wpAny_pure ?_
  unfold Builtin.«BaseException.__init__»
  dsimp only
  rw [if_neg (by simp)]
  unfold newTuple Builtin.BaseException.bexcPut
  have z0 : 0 < vs.size := (Array.getElem?_eq_some_iff.mp h0).1
  have e1 := Heap.get?_push_of_some (h := hp) { cls := .type "tuple", data := .seq rest.toArray } hx
  refine wpAny_bind (wpAny_newObj_type (wpAny_bind (wpAny_bind (wpAny_field e1 hd h0 (wpAny_bind (wpAny_setField e1 hd z0 (wpAny_letGo (wpAny_pure hq))))))) (by show rest.toArray.size ≤ sizeLine; rw [List.size_toArray]; exact hz))
end
section
variable {X : Cx}
/-! ### f"..{i}.." of a small int: some short text -/
def tFs (tv : TE) : TE := fun σ H Q => tv σ H fun x H1 => ∃ i : Int, x = .int i ∧ i.natAbs.log2 < 1920 ∧ (Str.ofString (toString i)).length ≤ 100 ∧ ∀ z : Str, z.length ≤ 1000 → Q (.str z) H1
theorem pe_fstr {a b : Str} {v : Expr} {tv : TE} {ja jb : Nat} {pa pb pv' pos : Pos} (hv : PE X v tv) (ha : a.length ≤ 300) (hb : b.length ≤ 300) : PE X (.JoinedStr [.Constant (.str a) ja pa, .FormattedValue v (-1) none pv', .Constant (.str b) jb pb] pos) (tFs tv) := by
  intro pins s σ H Q I h
  have l0 : ∀ x : Str, (Str.empty ++ x).length = x.length := fun x => by rw [strLen_append]; show 0 + x.length = _; omega
  refine JoinedStr_many (joinParts_cons (Calls.Constant_str ⟨by rw [l0, sizeLine_eq]; omega, joinParts_cons (FormattedValue_plain (thn (hv pins _ σ H _ (I.tok _) h) fun u s1 ⟨x, H1, I1, rx, i, ex, hi, hl, q⟩ => ?_))⟩))
  subst ex
  obtain ⟨t, rfl⟩ := (show ∃ t, u = Value.int i t from rx)
  refine formatField_int_small hi ⟨?_, joinParts_cons (Calls.Constant_str ⟨?_, joinParts_nil ⟨.str _, H1, ((I1.tok _).tok _).tok _, ⟨_, rfl⟩, q _ ?_⟩ ?_⟩)⟩
  all_goals
    have hl' : (toString i : Str).length ≤ 100 := hl
    simp only [strLen_append, l0, sizeLine_eq]
    first | omega | (show 0 + _ + _ ≤ _; omega) | (show 0 + _ + _ + _ ≤ _; omega)
end
end L2

set_option maxHeartbeats 4000000
namespace L2
open PySem PySem.Spec PyProof.Rows
section
variable {X : Cx}
/-! ### R.__init__(self, text), R an own class over ValueError that has no __init__ of its own -/
structure XIni (K : PySem.W.Frag) (R : Addr) : Prop where
  ga : PySem.W.specialIn K (.ref R) "__getattribute__" = some (some (.builtin "type.__getattribute__"))
  rd : PySem.W.readsIn K R (.type "type") = true
  at_ : PySem.W.findCls K (.ref R) (.type "type") "__init__" = some (.val (.builtin "ValueError.__init__"))
def tXini (K : PySem.W.Frag) (ta : TA) : TE := fun σ H Q => ta σ H fun vs H1 => ∃ j e C dd y, vs = [.ref e, y] ∧ H1 e = some (XO j e C dd) ∧ XClK K C ∧ Q .non H1
theorem pe_xinit {pl : Sem Bool} {R : Addr} {x : Str} {p apos pos : Pos} {a b : Expr} {ta : TA} (Z : XIni X.K R) (hg : Gl X x) (hm : X.mg x = some (.ref R)) (ha : PA X [a, b] ta) (hdb : (x == ("__debug__" : Str)) = false := by decide)
    (he : starEach [a, b] X.env = (false, eval a X.env) :: starEach [b] X.env := by rfl) (hpl : (backTo pos (starEach [b] X.env)).any (·.1) = false := by rfl)
    (ht : eval (.Call (.Attribute (.Name x p) "__init__" apos) [a, b] [] pos) X.env = (do
      let ov ← eval (.Name x p) X.env
      standAt apos.atName
      let (f, first) ← holding [ov] (getMethod ov "__init__" pl)
      callWith pos f first (backTo pos (starEach [a, b] X.env)) (backToKw pos (keywordEach [] X.env))) := by rfl) :
    PE X (.Call (.Attribute (.Name x p) "__init__" apos) [a, b] [] pos) (tXini X.K ta) := by
  intro pins s σ H Q I h
  refine PySem.W.methodCall_KW (pl := pl) (ld_glob I hg hm (PySem.W.method_cls I.kIn Z.ga (PySem.W.cls_value I.kIn Z.rd Z.at_ rfl ?_)) hdb) ht
  have I0 : Inv X pins σ H { s with toks := s.toks + 1 } := I.tok _
  refine PyProof.Rows.callWith_builtin1 (thn (ha pos pins _ σ H _ I0 h) fun us s1 ⟨vs, H1, I1, r1, j, e, C, dd, y, ev, hx, hc, q⟩ => ?_) he hpl
  subst ev
  obtain ⟨u1, u2, rfl, ru, rv⟩ := vals2 r1
  obtain rfl : u1 = Value.ref e := ru
  obtain ⟨bm, hbm⟩ := hc.cls
  obtain ⟨⟨oe, vs', t0, q1, q2, q3, q4, q5, q6, q7⟩, _, _⟩ := I1.hok e _ hx
  refine x_init (hbm _ I1.kIn) q1 q2 q4 q5 (by show 1 ≤ sizeLine; decide) ?_
  have e1 := Heap.get?_push_of_some (h := s1.heap) { cls := .type "tuple", data := .seq [u2].toArray } q1
  have hfd : ((Obj.mapFields (·.setIfInBounds 0 (Value.ref s1.heap.objs.size))) oe).isFreed = false := Obj.isFreed_of_fields (Obj.data_mapFields q4 _)
  have e2 := Heap.get?_update_self (Obj.mapFields (·.setIfInBounds 0 (Value.ref s1.heap.objs.size))) e1 hfd
  have z0 : 0 < vs'.size := (Array.getElem?_eq_some_iff.mp q5).1
  have x' : XAt j e C dd ((s1.heap.push { cls := .type "tuple", data := .seq [u2].toArray }).update e (Obj.mapFields (·.setIfInBounds 0 (Value.ref s1.heap.objs.size)))) := by
    refine ⟨_, _, s1.heap.objs.size, e2, (Obj.cls_mapFields _ _).trans q2, ?_, Obj.data_mapFields q4 _, by simp [z0], ?_, q7⟩
    · obtain ⟨c, d, dt, sl⟩ := oe; cases dt <;> exact q3
    · rw [Array.getElem?_setIfInBounds_ne (by decide)]; exact q6
  refine ⟨.non, H1, ?_, rfl, q⟩
  have I2 := I1.write (x := e) (e := e) (o := XO j e C dd) (t' := s1.toks) (by rw [hx]; exact True.intro) (.inl rfl) (h' := (s1.heap.push { cls := .type "tuple", data := .seq [u2].toArray }).update e (Obj.mapFields (·.setIfInBounds 0 (Value.ref s1.heap.objs.size))))
    (fun b o hb z => by rw [Heap.get?_update_other _ _ (Ne.symm hb)]; exact Heap.get?_push_of_some _ z) ⟨_, e2⟩ x'.ok
  rw [upd_eq hx] at I2
  exact I2
/-! ### self.f = v, self an exception without a dict -/
def sXfld (K : PySem.W.Frag) (ta tv : TE) (f : Str) : TS := fun D σ H => tv σ H fun y H1 => ta σ H1 fun x H2 => ∃ j e C, x = .ref e ∧ H2 e = some (XO j e C none) ∧ XSet K C f ∧ ∀ dx, H2 dx = none → dx ≠ e → D.nx σ (upd (upd H2 dx (.xd [(f, y)])) e (XO j e C (some dx)))
theorem ps_xfld {o value : Expr} {ta tv : TE} {f : Str} {pos pos' : Pos} (ha : PE X o ta) (hv : PE X value tv) (hs : swapsWith value (some (.Attribute o f pos')) pos.line X.env = pure false) : PS X (.Assign [.Attribute o f pos'] value pos) (sXfld X.K ta tv f) := by
  intro pins s σ H D I h
  refine plainObj_wpAny_Assign_Attribute (thn (hv pins s σ H _ I h) fun u s1 ⟨y, H1, I1, ry, q⟩ => thn (ha pins s1 σ H1 _ I1 q) fun ov s2 ⟨x, H2, I2, rx, j, e, C, ex, hx, hS, q2⟩ => ?_) hs
  subst ex
  obtain rfl : ov = Value.ref e := rx
  obtain ⟨⟨oe, vs, t0, w1, w2, w3, w4, w5, w6, w7⟩, _, _⟩ := I2.hok e _ hx
  refine x_setattr I2.kIn hS w1 w2 w3 w4 fun h' tk he hn hk => ?_
  have ne : s2.heap.objs.size ≠ e := Nat.ne_of_gt (Heap.lt_size w1)
  have hf : H2 s2.heap.objs.size = none := I2.hok.fresh (Nat.le_refl _)
  refine ⟨σ, _, ?_, q2 s2.heap.objs.size hf ne⟩
  -- the dict is laid first, then the exception is written
  have hne : ∀ b o, H2 b = some o → b ≠ s2.heap.objs.size := fun b o z => ne_of_none z hf
  have x' : XAt j e C (some s2.heap.objs.size) h' := ⟨_, vs, t0, he, w2, rfl, w4, w5, w6, w7⟩
  have hdo : ∃ o', h'.get? s2.heap.objs.size = some o' := by obtain ⟨o', _, _, z, _⟩ := hn; exact ⟨o', z⟩
  have new : ∀ b o, (upd (upd H2 s2.heap.objs.size (.xd [(f, y)])) e (XO j e C (some s2.heap.objs.size))) b = some o → ObjOk X.prog X.w (upd (upd H2 s2.heap.objs.size (.xd [(f, y)])) e (XO j e C (some s2.heap.objs.size))) h' b o := by
    intro b o z
    by_cases b1 : b = e
    · subst b1
      rw [upd_same] at z
      cases z
      exact x'.ok
    · rw [upd_ne b1] at z
      by_cases b2 : b = s2.heap.objs.size
      · subst b2
        rw [upd_same] at z
        cases z
        refine ⟨_, hn, fun g => ?_⟩
        by_cases g1 : g = f
        · subst g1
          have : ([(g, y)] : List (Str × V)).lookup g = some y := by simp [List.lookup]
          rw [this, if_pos rfl]
          exact ry
        · have : ([(f, y)] : List (Str × V)).lookup g = none := by
            have : (g == f) = false := by simpa using g1
            simp [List.lookup, this]
          rw [this, if_neg g1]
          exact True.intro
      · rw [upd_ne b2] at z
        refine (I2.hok b o z).stay (fun c v hc r => hk c v ?_ r) (fun c r => ?_) fun c xs r => ?_
        · rintro rfl
          rcases hc with y1 | y1
          · exact b1 y1.symm
          · rw [hx] at y1; cases y1
        · have c1 : c ≠ e := fun y1 => by rw [y1, hx] at r; cases r
          rw [upd_ne c1, upd_ne (hne c _ r)]; exact r
        · have c1 : c ≠ e := fun y1 => by rw [y1, hx] at r; cases r
          rw [upd_ne c1, upd_ne (hne c _ r)]; exact r
  have free : ∀ b o, s2.heap.get? b = some o → H2 b = none → (upd (upd H2 s2.heap.objs.size (.xd [(f, y)])) e (XO j e C (some s2.heap.objs.size))) b = none := fun b o z n => by
    have b1 : b ≠ e := fun y1 => by rw [y1, hx] at n; cases n
    rw [upd_ne b1, upd_ne (Nat.ne_of_lt (Heap.lt_size z))]; exact n
  have ext : ∀ b o, b ≠ e → H2 b = some o → (upd (upd H2 s2.heap.objs.size (.xd [(f, y)])) e (XO j e C (some s2.heap.objs.size))) b = some o := fun b o b1 z => by rw [upd_ne b1, upd_ne (hne b o z)]; exact z
  have nte : ∀ b o, H2 b = some o → (∀ φ, o ≠ .ext φ) → b ≠ e := fun b o z n y1 => by rw [y1, hx] at z; cases z; exact n _ rfl
  refine I2.un (t' := tk) ⟨fun b o z n _ _ => hk b o (fun y1 => by rw [y1, hx] at n; cases n) z, fun b o z n _ _ => ⟨o.slots, hk b o (fun y1 => by rw [y1, hx] at n; cases n) z⟩, fun b o z n _ => free b o z n, fun b o z _ => ?_,
    fun b xs z => ext b _ (nte b _ z fun _ y1 => nomatch y1) z, fun b o u' z => ext b _ (nte b _ z fun _ y1 => nomatch y1) z, fun b ps z => ⟨#[], by rw [ext b _ (nte b _ z fun _ y1 => nomatch y1) z]; simp⟩⟩ new
  by_cases b1 : b = e
  · subst b1; exact ⟨_, he⟩
  · exact ⟨o, hk b o b1 z⟩
/-! ### C(..), C an own exception class with its own __init__ -/
structure XMk (K : PySem.W.Frag) (C f : Addr) : Prop where
  cl : XClK K C
  init : PySem.W.findIn K (.ref C) "__init__" = some (some (.ref f))
  fn : PySem.W.isFn K (.ref f) = true
  kp : PySem.W.keepIn K (.ref C) = true
def tXmk (j : Nat) (C : Addr) (sp : Sp) (E : XK) (t : TA) : TE := fun σ H Q => t σ H fun vs H1 => vs.length ≤ 100 ∧ ∀ e, H1 e = none → sp (.ref e :: vs) (upd H1 e (XO j e C none)) (fun v H2 => v = .non ∧ Q (.ref e) H2) E
theorem pe_xmake {CX : CXT} {E : XK} {k : Nat} {f C : Addr} {fd : FuncData} {ps : List Str} {sp : Sp} {x : Str} {p pos : Pos} {e : Expr} {es : List Expr} {t : TA} (M : XMk X.K C f) (F : FnOk X.prog X.w X.K X.mg X.base CX k f fd ps sp) (hr : Room (k + 1) X.A) (hg : Gl X x) (hm : X.mg x = some (.ref C)) (hb : Binds X.K fd ps [])
    (hx : Passes CX X E) (ha : PA X (e :: es) t) (hdb : (x == ("__debug__" : Str)) = false := by decide) (he : starEach (e :: es) X.env = (false, eval e X.env) :: starEach es X.env := by rfl) (hpl : (backTo pos (starEach es X.env)).any (·.1) = false := by rfl) :
    PE X (.Call (.Name x p) (e :: es) [] pos) (tXmk X.s₀.heap.objs.size C sp E t) := by
  intro pins s σ H Q I h
  refine wpAny_Call_Name_kw (ld_glob I hg hm ?_ hdb)
  refine PySem.W.callWith_K (h₀ := X.base) I.ok.mod.kin M.kp (thn (ha pos pins s σ H _ I h) fun us s1 ⟨vs, H1, I1, r, hz, q⟩ => ⟨I1.kIn, ?_⟩) he hpl
  obtain ⟨bm, hbm⟩ := M.cl.cls
  have hfn : PySem.W.typeIn X.K (.ref f) = some (.type "function") := beq_iff_eq.mp M.fn
  obtain ⟨oI, lI, cI⟩ := Option.map_eq_some_iff.mp hfn
  have lus : us.length ≤ sizeLine := by rw [← r.length, sizeLine_eq]; omega
  obtain ⟨hp, g, d, tk, os⟩ := s1
  refine x_call_init (hbm _ I1.kIn) (fun h' kk => PySem.W.looks_findIn (I1.kIn.keeps kk) M.init) (I1.kIn _ _ lI) cI lus fun h' ea hsz made => ?_
  obtain ⟨t0, m1, m2, m3⟩ := made.there
  have I2 : Inv X pins σ (upd H1 ea (XO X.s₀.heap.objs.size ea C none)) ⟨h', g, d, tk, os⟩ := I1.laid (t' := tk) made.keeps hsz (XAt.ok ⟨_, _, t0, m1, rfl, rfl, rfl, rfl, rfl, Nat.le_trans I1.sz hsz⟩)
  have hq := q ea (I1.hok.fresh hsz)
  have r2 : Vals (V.ref ea :: vs) (Value.ref ea :: us) := .cons rfl r
  have hl : (Value.ref ea :: us ++ []).length = ps.length := by
    have z := r2.length
    rw [F.len _ _ _ _ hq] at z
    rw [List.append_nil]; exact z.symm
  have bd := hb ⟨h', g, d, tk, os⟩ (Value.ref ea :: us) I2.kIn hl
  rw [List.append_nil] at bd
  refine wpAny_call (codeAny_mono (F.run _ X.stack _ _ ⟨Value.ref ea :: us, []⟩ (Value.ref ea :: us) _ _ E (hr.make C us []) (I2.env0.make C us []) bd r2 hq) fun rr s' hq' => ?_)
  cases rr with
  | error x0 => exact hx pins σ _ _ x0 s' I2 hq'
  | ok fl =>
    cases fl with
    | ret u =>
      obtain ⟨v, H', I3, rv, ev, q3⟩ := I2.after hq'
      subst ev
      exact ⟨rv, ⟨V.ref ea, H', I3, rfl, q3⟩⟩
    | next => exact False.elim hq'
    | brk => exact False.elim hq'
    | cont => exact False.elim hq'
end
end L2

set_option maxHeartbeats 4000000
namespace L2
open PySem PySem.Spec PyProof.Rows
/-! ### attributes of an exception of an own class; isinstance of it -/
structure XGet (K : PySem.W.Frag) (C : Addr) : Prop where
  ga : PySem.W.findIn K (.ref C) "__getattribute__" = some (some (.builtin "BaseException.__getattribute__"))
  hk : PySem.W.findIn K (.ref C) "__getattr__" = some none
  be : PySem.W.mroIn K C (.type "BaseException") = some true
  ob : PySem.W.mroIn K C (.type "object") = some true
  ck : PySem.W.findIn K (.ref C) "__class__" = some (some (.builtin "object.__class__"))
  gk : PySem.W.specialIn K (.builtin "object.__class__") "__get__" = some (some (.builtin "getset_descriptor.__get__"))
  tk : PySem.W.takesIn K (.builtin "object.__class__") = some true
  hd : PySem.W.hasDictIn K C = true
section
variable {prog : Program} {w : World} {A : Around} {E : Value → Shared → Prop} {s : Shared} {K : PySem.W.Frag} {e C : Addr} {oe : Obj} {od : Option Obj} {name : Str} {tk : Tok} {fill expr : Bool}
theorem x_getby {r : Builtin.ObjectAttr.Found} {Q : Value → Shared → Prop} (X : K.In s.heap) (G : XGet K C) (I : PySem.W.InstAt s.heap e oe C od) (L : PySem.W.Looks (model prog w) s.heap (Builtin.ObjectAttr.find (.ref e) (.ref C) name) r)
    (h : wpAny (model prog w) A.in1 (match r with | .value v => ret v | .bind g a => Builtin.ObjectAttr.bindTo g a (.ref e) (.ref C) | .missing => unsupported "x") (fun fin s' => match fin with | .done (.ret v) => wpAny (model prog w) A (handedOut v) Q E s' | _ => False) (fun _ _ => False) s) (hr : r ≠ .missing) :
    wpAny (model prog w) A (getAttrBy (.ref e) (.str name tk) fill expr) Q E s := by
  have T := I.type (M := model prog w)
  have FB := PySem.F.attrBase_ValueError
  unfold getAttrBy
  refine wpAny_holding (wpAny_bind (T.at (wpAny_bind ((PySem.W.looks_findIn X G.ga).at ?_))))
  dsimp only
  have nb : (Value.builtin "BaseException.__getattribute__" == Value.builtin "object.__getattribute__") = false := by decide +kernel
  rw [nb, Bool.and_false, if_neg Bool.false_ne_true]
  unfold getAttrByItsOwn
  refine wpAny_bind ((show PySem.W.Looks (model prog w) s.heap (hookBefore (.ref C)) none from PySem.W.looks_findIn X G.hk).at (wpAny_bind (wpAny_attempt (wpAny_holding ?_))))
  unfold callGetattribute
  rw [show (expr && onTheHeap (Value.builtin "BaseException.__getattribute__")) = false from Bool.and_false _, if_neg Bool.false_ne_true]
  unfold boundAndCalled
  rw [FB.ga.bind]
  refine wpAny_bind (wpAny_pure ?_)
  show wpAny _ _ (call (.builtin "BaseException.__getattribute__") [.ref e, .str name tk]) _ _ _
  have sub : PySem.W.Looks (model prog w) s.heap (isInstance (.ref e) (.type "BaseException")) true := T.andThen (PySem.W.looks_mroIn X G.be)
  refine wpAny_call (codeAny_call_builtin FB.ga.plain PySem.F.entry_bexc_ga (@PySem.W.check_slot (model prog w) _ _ s "BaseException.__getattribute__" "BaseException" "__getattribute__" (.ref e) [.str name tk] [] _ (by decide +kernel) (by decide +kernel) sub (PySem.F.args_bexc_ga _ _) ?_))
  unfold Builtin.«object.__getattribute__»
  refine wpAny_bind (wpAny_pure (wpAny_bind (wpAny_pure (wpAny_bind (T.at (wpAny_bind (L.at ?_)))))))
  cases r with
  | missing => exact absurd rfl hr
  | value v =>
    refine wpAny_mono h (fun fin s' z => ?_) fun _ _ z => z.elim
    rcases fin with (_ | _ | _ | _) | _ <;> first | exact z | exact z.elim
  | bind g a =>
    refine wpAny_mono h (fun fin s' z => ?_) fun _ _ z => z.elim
    rcases fin with (_ | _ | _ | _) | _ <;> first | exact z | exact z.elim
theorem x_getattr {od : Obj} {v : Value} {Q : Value → Shared → Prop} (X : K.In s.heap) (G : XGet K C) (I : PySem.W.InstAt s.heap e oe C (some od)) (hn : PySem.W.findIn K (.ref C) name = some none) (hl : PySem.W.lookIn name od = some (some v)) (hh : PySem.W.handedIn v = true)
    (h : Q v { s with toks := s.toks + 1 }) : wpAny (model prog w) A (getAttr (.ref e) name expr) Q E s := by
  unfold getAttr
  refine wpAny_bind (wpAny_mkText ?_)
  refine x_getby (s := { s with toks := s.toks + 1 }) X G I (PySem.W.looks_find X I (PySem.W.findObj_own G.hd hn rfl hl)) ?_ (fun z => nomatch z)
  refine wpAny_pure ?_
  show wpAny _ _ (handedOut v) _ _ _
  rw [PySem.W.handedOut_of hh]
  exact wpAny_pure h
theorem x_class {od : Obj} {Q : Option Value → Shared → Prop} (X : K.In s.heap) (G : XGet K C) (I : PySem.W.InstAt s.heap e oe C (some od)) (h : Q (some (.ref C)) { s with toks := s.toks + 1 }) : wpAny (model prog w) A (getAttr? (.ref e) "__class__") Q E s := by
  have hf : PySem.W.findObj K C (some od) "__class__" = some (.bind (.builtin "getset_descriptor.__get__") (.builtin "object.__class__")) := PySem.W.findObj_data (by obtain ⟨cd, hc, _⟩ := PySem.W.any_some G.hd; rw [hc]; rfl) G.ck G.gk G.tk
  unfold getAttr? getAttrBy?
  refine wpAny_bind (wpAny_mkText (wpAny_bind (wpAny_attempt ?_)))
  refine x_getby (s := { s with toks := s.toks + 1 }) X G I (PySem.W.looks_find X I hf) ?_ (fun z => nomatch z)
  show wpAny _ _ (Builtin.ObjectAttr.bindTo (.builtin "getset_descriptor.__get__") (.builtin "object.__class__") (.ref e) (.ref C)) _ _ _
  unfold Builtin.ObjectAttr.bindTo
  refine wpAny_bind (wpAny_holding (wpAny_call (PySem.W.class_get (s := { s with toks := s.toks + 1 }) (ox := oe) (od := some od) X I G.ob ?_)))
  refine wpAny_pure ?_
  show wpAny _ _ (handedOut (.ref C)) _ _ _
  rw [PySem.W.handedOut_of rfl]
  exact wpAny_pure (wpAny_pure h)
theorem kitx_exc {od : Obj} (G : XGet K C) : PySem.W.KitX K (.ref e) (.ref C) (fun h => PySem.W.InstAt h e oe C (some od)) where
  ty := fun _ _ _ I => I.type
  it := fun _ _ X _ => by
    obtain ⟨cd, hc, _⟩ := PySem.W.any_some G.hd
    unfold PySem.W.clsIn at hc
    split at hc
    · rename_i ho
      intro A' Q' E' s' k q
      unfold isType loadHead
      exact wpAny_bind (wpAny_loadPart (k _ _ (X _ _ ho)) (wpAny_pure q))
    · cases hc
  ne := fun h tp dd its n sl X htp => by
    obtain ⟨cd, hc, _⟩ := PySem.W.any_some G.hd
    refine Bool.eq_false_iff.mpr fun q => ?_
    have z : C = tp := Value.ref.inj (beq_iff_eq.mp q)
    subst z
    unfold PySem.W.clsIn at hc
    split at hc
    · rename_i ho
      have y := (X _ _ ho).symm.trans htp
      cases y
    · cases hc
  ca := fun X I k => x_class X G I k
end
/-- an exception that was caught -/
def YAt (e C : Addr) (dd : Option Addr) (h : Heap) : Prop := ∃ oe vs, h.get? e = some oe ∧ oe.cls = .ref C ∧ oe.dict = dd ∧ oe.data = .fields vs
abbrev YO (e C : Addr) (dd : Option Addr) : HO := .ext (YAt e C dd)
theorem YAt.stable {e C : Addr} {dd : Option Addr} : ∀ h1 h2 : Heap, YAt e C dd h1 → (∀ o, h1.get? e = some o → h2.get? e = some o) → YAt e C dd h2 := fun h1 h2 ⟨oe, vs, q, r⟩ k => ⟨oe, vs, k _ q, r⟩
theorem YAt.ok {P : Program} {w : World} {H : Hp} {h : Heap} {e C : Addr} {dd : Option Addr} (x : YAt e C dd h) : ObjOk P w H h e (YO e C dd) := ⟨x, (by obtain ⟨oe, _, q, _⟩ := x; exact ⟨oe, q⟩), YAt.stable⟩
section
variable {X : Cx}
theorem Inv.caught {pins : List (Addr × Obj)} {σ : St} {H : Hp} {s : Shared} {e C dx : Addr} {fs : List (Str × V)} (I : Inv X pins σ H s) (h1 : H e = some (YO e C (some dx))) (h2 : H dx = some (.xd fs)) :
    ∃ (oe od : Obj) (mA : Str → Option Value), PySem.W.InstAt s.heap e oe C (some od) ∧ (∀ name, PySem.W.lookIn name od = some (mA name)) ∧ ∀ f, RelO (fs.lookup f) (mA f) := by
  obtain ⟨⟨oe, vs, q1, q2, q3, q4⟩, _, _⟩ := I.hok e _ h1
  obtain ⟨mA, n, r⟩ := I.hok dx _ h2
  obtain ⟨od, w1, w2⟩ := lookIn_ns n
  refine ⟨oe, od, mA, ⟨q1, q2, ?_, ?_⟩, w2, r⟩
  · unfold PySem.W.notCls; rw [q4]
  · rw [q3]; exact w1
/-- e.f -/
def tXat (K : PySem.W.Frag) (ta : TE) (f : Str) : TE := fun σ H Q => ta σ H fun x H1 => ∃ e C dx fs v, x = .ref e ∧ H1 e = some (YO e C (some dx)) ∧ H1 dx = some (.xd fs) ∧ XGet K C ∧ PySem.W.findIn K (.ref C) f = some none ∧ fs.lookup f = some v ∧ Q v H1
theorem pe_xat {o : Expr} {ta : TE} {f : Str} {pos : Pos} (he : PE X o ta) (hb : attributeBase o f X.env (eval o X.env) = eval o X.env) : PE X (.Attribute o f pos) (tXat X.K ta f) := by
  intro pins s σ H Q I h
  refine attr_of hb (thn (he pins s σ H _ I h) fun u s1 ⟨x, H1, I1, rx, e, C, dx, fs, v, ex, h1, h2, G, hn, hl, q⟩ => ?_)
  subst ex
  obtain rfl : u = Value.ref e := rx
  obtain ⟨oe, od, mA, J, lk, rl⟩ := I1.caught h1 h2
  have z := rl f
  rw [hl] at z
  obtain ⟨u', m1, ru⟩ := z.some_of
  exact x_getattr I1.kIn G J hn (by rw [lk, m1]) (handed_of ru) ⟨v, H1, I1.tok _, ru, q⟩
/-- isinstance(e, an own class or a built-in one) -/
theorem call_isx : CallR X (.builtin "isinstance") (fun xs H Q => ∃ e C dx fs c cv b, xs = [.ref e, c] ∧ H e = some (YO e C (some dx)) ∧ H dx = some (.xd fs) ∧ XGet X.K C ∧ RelV c cv ∧ PySem.W.kitOne X.K (.ref C) cv = some b ∧ Q (.bl b) H) := by
  intro pins s σ H xs us Q I r h
  obtain ⟨e, C, dx, fs, c, cv, b, rfl, h1, h2, G, rc, kt, q⟩ := h
  obtain ⟨u, c', rfl, rx, rc'⟩ := vals2 r
  obtain rfl : u = Value.ref e := rx
  obtain ⟨oe, od, mA, J, _, _⟩ := I.caught h1 h2
  have ec : c' = cv := by
    cases c with
    | ty n => exact (show c' = Value.type n from rc').trans (show cv = Value.type n from rc).symm
    | ref a => exact (show c' = Value.ref a from rc').trans (show cv = Value.ref a from rc).symm
    | non => exact (show c' = Value.none from rc').trans (show cv = Value.none from rc).symm
    | bl b' => exact (show c' = Value.bool b' from rc').trans (show cv = Value.bool b' from rc).symm
    | _ =>
      obtain ⟨t1, z1⟩ := rc
      rw [z1] at kt
      unfold PySem.W.kitOne at kt
      rw [if_neg (by simp)] at kt
      cases kt
  rw [ec]
  exact PySem.W.kia_one (kitx_exc G) I.kIn J kt (fun z => nomatch z) fun tk => ⟨.bl b, H, I.tok _, rfl, q⟩
end
end L2

set_option maxHeartbeats 4000000
namespace L2
open PySem PySem.Spec PyProof.Rows
/-! ### raise of an own exception -/
def del (H : Hp) (a : Addr) : Hp := fun b => if b = a then none else H b
theorem del_same {H : Hp} {a : Addr} : del H a a = none := by unfold del; rw [if_pos rfl]
theorem del_ne {H : Hp} {a b : Addr} (h : b ≠ a) : del H a b = H b := by unfold del; rw [if_neg h]
section
variable {M : Model} {A : Around} {E : Value → Shared → Prop} {s : Shared} {env : Env} {C : Addr} {bm : List Value}
theorem x_raise {x : Sem Value} {Q : Flow → Shared → Prop} (hh : A.handled = none)
    (h : wpAny M A x (fun v s1 => ∃ (e C : Addr) (bm : List Value) (oe : Obj) (vs : Array Value), v = .ref e ∧ XCls s1.heap C bm ∧ s1.heap.get? e = some oe ∧ oe.cls = .ref C ∧ oe.data = .fields vs ∧ vs[1]? = some .none ∧ E (.ref e) s1) E s) :
    wpAny M A (raiseStmt env (some x) none) Q E s := by
  unfold raiseStmt
  refine wpAny_bind (wpAny_mono h (fun v s1 h1 => ?_) fun _ _ x => x)
  obtain ⟨e, C, bm, oe, vs, rfl, hx, he, hcl, hd, h1, hE⟩ := h1
  obtain ⟨⟨nm, q, N, bs, hdct, sn, sub, ab, col, dd, k0, k1, k2, k3, k5, hC⟩, _, hb, _, _⟩ := hx
  have hcB := hasC (C := C) hb
  obtain ⟨hp, g, d, tk, os⟩ := s1
  have f1 : wpAny M A (setFlight (.ref e) none) (fun _ s' => wpAny M A (raiseNew (.ref e)) Q E s') E ⟨hp, g, d, tk, os⟩ := by
    unfold setFlight
    refine wpAny_bind (wpAny_field he hd h1 ?_)
    rw [if_neg (by decide)]
    exact wpAny_pure (wpAny_raiseNew_none hh hE)
  obtain ⟨oc, od, odt, osl⟩ := oe
  dsimp only at hcl hd
  subst hcl hd
  repeat (first | exact wpAny_bind f1 | with_reducible refine wpAny_loadPart_at he ?_ | with_reducible refine wpAny_loadPart_at hC ?_ | (with_reducible refine wpAny_isSubtype_exc hC ?_; rw [hcB]) | wp_step)
/-- does the clause for R take it -/
theorem x_matches {h : Heap} {g : Array GenState} {d : Drawn} {t : Nat} {os : OsState} {e R : Addr} {oe : Obj} {bR : List Value} {b : Bool} {Q : Bool → Shared → Prop} (x : XCls h C bm) (y : XCls h R bR) (he : h.get? e = some oe) (hcl : oe.cls = .ref C) (hb : (Value.ref C :: bm).contains (.ref R) = b)
    (hq : Q b ⟨h, g, d, t, os⟩) : wpAny M A (excMatches (.ref e) (.ref R)) Q E ⟨h, g, d, t, os⟩ := by
  obtain ⟨⟨nm, q, N, bs, hdct, sn, sub, ab, col, dd, k0, k1, k2, k3, k5, hC⟩, _, _, _, _⟩ := x
  obtain ⟨⟨nm', q', N', bs', hdct', sn', sub', ab', col', dd', k0', k1', k2', k3', k5', hR⟩, _, hbR, _, _⟩ := y
  have hcB := hasC (C := R) hbR
  have f := tc_notTuple
  unfold excMatches
  repeat (first | (with_reducible refine wpAny_loadPart_at he ?_; rw [hcl]) | with_reducible refine wpAny_loadPart_at hR ?_ | (with_reducible refine wpAny_isSubtype_exc hR ?_; rw [hcB]) | (with_reducible refine wpAny_isSubtype_exc hC ?_; rw [hb]) | wp_step)
  cases b <;> (wp_walk; exact hq)
end
section
variable {X : Cx} {pins : List (Addr × Obj)} {σ : St} {H : Hp} {s : Shared}
/-- an object of one's own is no more followed -/
theorem Inv.drop {e : Addr} {φ : Heap → Prop} (I : Inv X pins σ H s) (h : H e = some (.ext φ)) : Inv X pins σ (del H e) s := by
  have nn : ∀ b, H b = none → del H e b = none := fun b z => by
    by_cases y : b = e
    · subst y; exact del_same
    · rw [del_ne y]; exact z
  have nt : ∀ b o, H b = some o → (∀ φ, o ≠ .ext φ) → del H e b = some o := fun b o z n => by
    rw [del_ne fun y => by rw [y, h] at z; cases z; exact n _ rfl]; exact z
  refine ⟨I.ok, I.os, I.bare, ⟨I.base.keep, I.base.slot, fun b o q n hx => nn b (I.base.free b o q n hx), I.base.there, fun b xs q => nt b _ (I.base.tups b xs q) (fun _ y => nomatch y), fun b o u q => nt b _ (I.base.frzs b o u q) (fun _ y => nomatch y), fun b ps q => ?_⟩, I.loc, I.cell, nn _ I.free, fun x c q => nn _ (I.freeC x c q), fun p hp => ?_, fun b o q => ?_, I.len⟩
  · obtain ⟨m, z⟩ := I.base.tbls b ps q
    exact ⟨m, nt b _ z (fun _ y => nomatch y)⟩
  · obtain ⟨a, b, c⟩ := I.pin p hp
    exact ⟨a, nn _ b, c⟩
  · by_cases y : b = e
    · subst y; rw [del_same] at q; cases q
    · rw [del_ne y] at q
      exact (I.hok b o q).stay (fun _ _ _ r => r) (fun c r => nt c _ r (fun _ y => nomatch y)) fun c xs r => nt c _ r (fun _ y => nomatch y)
end
/-- raise EXPR, in a def's body -/
def sRaise (K : PySem.W.Frag) (j : Nat) (te : TE) (E : XK) : TS := fun _ σ H => te σ H fun x H1 => ∃ e C dd, x = .ref e ∧ H1 e = some (XO j e C dd) ∧ XClK K C ∧ E (.ref C) dd (del H1 e)
theorem ps_raise {P : Program} {w : World} {K : PySem.W.Frag} {mg : Str → Option Value} {base : Heap} {N : List Str} {qual : Str} {scope : Scope} {f : Addr} {cd : Value} {A : Around} {outer : List Env} {s0 : Shared} {H0 : Hp} {E : XK} {x : Expr} {te : TE} {pos : Pos}
    (hx : PE (cxE P w K mg base N qual scope f cd A outer s0 H0 E) x te) : PS (cxE P w K mg base N qual scope f cd A outer s0 H0 E) (.Raise (some x) none pos) (sRaise K s0.heap.objs.size te E) := by
  intro pins s σ H D I h
  rw [arm_exec_Raise]
  refine wpAny_bind (wpAny_standAt ?_)
  refine x_raise (I.ok.hd rfl) (wpAny_bind (thn (hx pins s σ H _ I h) fun u s1 ⟨v, H1, I1, rv, e, C, dd, ev, he, hc, q⟩ => wpAny_bind (wpAny_standAt (wpAny_pure ?_))))
  subst ev
  obtain rfl : u = Value.ref e := rv
  obtain ⟨bm, hbm⟩ := hc.cls
  have xa := (I1.hok e _ he).1
  obtain ⟨oe, vs, t0, q1, q2, q3, q4, q5, q6, q7⟩ := id xa
  exact ⟨e, C, bm, oe, vs, rfl, hbm _ I1.kIn, q1, q2, q4, q6, xe_raw (I1.drop he) xa.raw (Heap.get?_none_of_le q7) del_same q⟩
end L2

set_option maxHeartbeats 4000000
namespace L2
open PySem PySem.Spec PyProof.Rows
section
variable {X : Cx} {pins pins1 : List (Addr × Obj)} {σ σ1 : St} {H H1 : Hp} {s s1 : Shared} {h' : Heap}
/-- an exception's objects, new since s1, have changed -/
theorem Inv.diff {S : List Addr} (I1 : Inv X pins σ1 H1 s1) (I : Inv X pins σ H s) (D : Diff S (frs X.stack) s.heap h') (hS : ∀ b ∈ S, s1.heap.get? b = none ∧ H b = none) (hs0 : ∀ b ∈ S, X.s₀.heap.get? b = none) : Inv X pins σ H { s with heap := h' } := by
  have nS : ∀ b o, s1.heap.get? b = some o → b ∉ S := fun b o q z => by rw [(hS b z).1] at q; cases q
  have any : ∀ b o, b ∉ S → s.heap.get? b = some o → ∃ sl, h'.get? b = some { o with slots := sl } := fun b o z q => by
    by_cases y : b ∈ frs X.stack
    · exact D.slot b o z y q
    · exact ⟨o.slots, D.keep b o z y q⟩
  have nL : X.env.locals ∉ S := by obtain ⟨_, ⟨o, _, _, q, _⟩, _⟩ := I1.loc; exact nS _ o q
  have nC : ∀ x c, X.env.cells.lookup x = some c → c ∉ S := fun x c q => by obtain ⟨_, o, z, _⟩ := I1.cell x c q; exact nS _ o z
  have cellK : ∀ x c, X.env.cells.lookup x = some c → ∀ v, s.heap.IsCell c v → h'.IsCell c v := fun x c q v ⟨o, ho, hd⟩ => by
    obtain ⟨sl, z⟩ := any c o (nC x c q) ho
    exact ⟨_, z, hd⟩
  refine ⟨I.ok, I.os, I.bare, un_diff (L := X.env.locals) I.base D hs0 (fun b hb => List.mem_cons.mp (I.stkSub b hb)) (Heap.get?_none_of_le I.ok.above), ?_, fun x c q => ?_, I.free, I.freeC, fun p hp => ?_, hok_diff I.hok D (fun b hb => (hS b hb).2) (fun b hb => I.stkFree b hb), I.len⟩
  · obtain ⟨m, ⟨o, es, ep, ho, r⟩, hl⟩ := I.loc
    obtain ⟨sl, z⟩ := any _ o nL ho
    refine ⟨m, ⟨_, es, ep, z, r⟩, fun i x v e1 e2 e3 => ?_⟩
    obtain ⟨u, ru, l⟩ := hl i x v e1 e2 e3
    refine ⟨u, ru, ?_⟩
    rcases l with l | ⟨k, c, e, y⟩
    · exact .inl l
    · exact .inr ⟨k, c, e, cellK x c e _ y⟩
  · obtain ⟨v, z⟩ := I.cell x c q
    exact ⟨v, cellK x c q v z⟩
  · obtain ⟨a, n, ne, nf, d⟩ := I.pin p hp
    obtain ⟨a1, _⟩ := I1.pin p hp
    exact ⟨D.keep _ _ (nS _ _ a1) (fun y => (List.mem_cons.mp (I.stkSub _ y)).elim ne nf) a, n, ne, nf, d⟩
/-- an object that is new since s1 is followed from now on -/
theorem Inv.take {e : Addr} {o : HO} (I1 : Inv X pins σ1 H1 s1) (I : Inv X pins σ H s) (hn : s1.heap.get? e = none) (hH : H e = none) (h0 : X.s₀.heap.get? e = none) (ok : ObjOk X.prog X.w (upd H e o) s.heap e o) : Inv X pins σ (upd H e o) s := by
  have ne : ∀ b u, H b = some u → b ≠ e := fun b u q z => by rw [z, hH] at q; cases q
  have old : ∀ b u, s1.heap.get? b = some u → b ≠ e := fun b u q z => by rw [z, hn] at q; cases q
  refine ⟨I.ok, I.os, I.bare, ⟨I.base.keep, I.base.slot, fun b u q n hx => ?_, I.base.there, fun b xs q => ?_, fun b u v q => ?_, fun b ps q => ?_⟩, I.loc, I.cell, ?_, fun x c q => ?_, fun p hp => ?_, fun b u q => ?_, I.len⟩
  · rw [upd_ne fun z => by rw [z, h0] at q; cases q]; exact I.base.free b u q n hx
  · have z := I.base.tups b xs q; rw [upd_ne (ne _ _ z)]; exact z
  · have z := I.base.frzs b u v q; rw [upd_ne (ne _ _ z)]; exact z
  · obtain ⟨m, z⟩ := I.base.tbls b ps q; exact ⟨m, by rw [upd_ne (ne _ _ z)]; exact z⟩
  · obtain ⟨_, ⟨u, _, _, q, _⟩, _⟩ := I1.loc; rw [upd_ne (old _ _ q)]; exact I.free
  · obtain ⟨_, u, z, _⟩ := I1.cell x c q; rw [upd_ne (old _ _ z)]; exact I.freeC x c q
  · obtain ⟨a, n, r⟩ := I.pin p hp
    obtain ⟨a1, _⟩ := I1.pin p hp
    exact ⟨a, by rw [upd_ne (old _ _ a1)]; exact n, r⟩
  · by_cases z : b = e
    · subst z; rw [upd_same] at q; cases q; exact ok
    · rw [upd_ne z] at q
      exact (I.hok b u q).stay (fun _ _ _ r => r) (fun c r => by rw [upd_ne (ne _ _ r)]; exact r) fun c xs r => by rw [upd_ne (ne _ _ r)]; exact r
/-- the name behind an except suite goes -/
theorem Inv.gone {M : Model} {A : Around} {E : Value → Shared → Prop} {i : Nat} {n : Str} {pos : Pos} {Q : Unit → Shared → Prop} (I : Inv X pins σ H s) (hN : X.N.Nodup) (hi : X.N[i]? = some n) (hl : X.env.scope.names.lookup n = some .local)
    (h : ∀ s', Inv X pins (σ.set i none) H s' → Q () s') : wpAny M A (do bindName X.env n .none; unbindBehindTheSuite X.env n pos) Q E s := by
  obtain ⟨m, hn, hlk⟩ := id I.loc
  have hcls : (X.env.scope.kind == .class || (X.env.scope.kind == .module && X.env.locals != X.env.globals)) = false := by rw [I.ok.kind]; rfl
  have cne := I.cne
  refine wpAny_nameGoes_keeps hl hn hcls fun h' v hn' hs => ?_
  obtain ⟨oL, _, _, hoL, _⟩ := id hn
  have nL : ∀ b o, X.s₀.heap.get? b = some o → b ≠ X.env.locals := fun b o e => Nat.ne_of_lt (Nat.lt_of_lt_of_le (Heap.lt_size e) I.ok.above)
  have tracked : HOk X.prog X.w H h' := fun b ob e => by
    refine (I.hok b ob e).stay (fun c w' hc q => (hs.2 c ?_).trans q) (fun _ q => q) fun _ _ q => q
    rintro rfl
    rcases hc with rfl | hc
    · rw [I.free] at e; cases e
    · rw [I.free] at hc; cases hc
  have J : Inv X pins (σ.set i none) H { s with heap := h' } := by
    refine ⟨I.ok, I.os, I.bare, ⟨fun b o e n hb hx => ?_, fun b o e n hb hx => ?_, I.base.free, fun b o e hx => ?_, I.base.tups, I.base.frzs, I.base.tbls⟩, ⟨_, hn', fun j y v' e1 e2 e3 => ?_⟩, fun y c e => ?_, I.free, I.freeC, fun p hp => ?_, tracked, by simpa using I.len⟩
    · exact (hs.2 b (nL b o e)).trans (I.base.keep b o e n hb hx)
    · obtain ⟨sl, e1⟩ := I.base.slot b o e n hb hx
      exact ⟨sl, (hs.2 b (nL b o e)).trans e1⟩
    · obtain ⟨o', e1⟩ := I.base.there b o e hx
      exact ⟨o', (hs.2 b (nL b o e)).trans e1⟩
    · by_cases hj : j = i
      · subst hj
        by_cases hz : j < σ.length
        · rw [List.getElem?_set_self hz] at e2; cases e2
        · rw [List.getElem?_eq_none (by simpa using hz)] at e2; cases e2
      · rw [List.getElem?_set_ne (Ne.symm hj)] at e2
        obtain ⟨u', r', q⟩ := hlk j y v' e1 e2 e3
        refine ⟨u', r', ?_⟩
        rcases q with ⟨k, e⟩ | ⟨k, c, e, z⟩
        · refine .inl ⟨k, ?_⟩
          have : y ≠ n := fun e => hj (nodup_ix hN e1 (e ▸ hi))
          simp [this, e]
        · exact .inr ⟨k, c, e, z.sameBut hs (cne y c e)⟩
    · obtain ⟨w', z⟩ := I.cell y c e
      exact ⟨w', z.sameBut hs (cne y c e)⟩
    · obtain ⟨e, n, ne, nf, d⟩ := I.pin p hp
      exact ⟨(hs.2 p.1 ne).trans e, n, ne, nf, d⟩
  exact h _ (J.tok _)
/-- the same place, other wishes -/
def Cx.around (X : Cx) (A : Around) (c : Bool) (E : Value → Shared → Prop) (pn : List (Addr × Obj)) : Cx := { X with A := A, calm := c, xe := E, pn := pn }
theorem Inv.around {A : Around} {c : Bool} {E : Value → Shared → Prop} {pn : List (Addr × Obj)} (I : Inv X pins1 σ H s) (hf : A.frames = X.A.frames) (hc : c = true → A.handled = none) (hp : ∀ p ∈ pn ++ pins, p ∈ X.pn ++ pins1) : Inv (X.around A c E pn) pins σ H s :=
  ⟨⟨I.ok.mod, I.ok.kind, I.ok.glob, I.ok.blt, I.ok.above, I.ok.inj, I.ok.has, I.ok.cab, hc, hf.trans I.ok.frames, I.ok.stk, I.ok.exf, I.ok.bs, I.ok.bsz, I.ok.noex, I.ok.exfs, I.ok.funs, I.ok.frf⟩, I.os, I.bare, I.base, I.loc, I.cell, I.free, I.freeC, fun p h => I.pin p (hp p h), I.hok, I.len⟩
theorem Inv.back {A : Around} {c : Bool} {E : Value → Shared → Prop} {pn : List (Addr × Obj)} (I : Inv (X.around A c E pn) pins1 σ H s) (ok : X.Ok) (hp : ∀ p ∈ X.pn ++ pins, p ∈ pn ++ pins1) : Inv X pins σ H s :=
  ⟨ok, I.os, I.bare, I.base, I.loc, I.cell, I.free, I.freeC, fun p h => I.pin p (hp p h), I.hok, I.len⟩
end
/-- try: .. except R as n: .. ; Eb: what the body may let out (all of which R takes) -/
def tTry (K : PySem.W.Frag) (R : Addr) (N : Nat) (i : Nat) (Eb : XK) (tb ts : TS) : TS := fun D σ H => tb D σ H ∧ ∀ cl dd H1, Eb cl dd H1 → ∃ C, cl = .ref C ∧ (∃ bm bR, (∀ h, K.In h → XCls h C bm) ∧ (∀ h, K.In h → XCls h R bR) ∧ (Value.ref C :: bm).contains (.ref R) = true) ∧
  ∀ (e : Addr) (σ' : St), H1 e = none → σ'.length = N → ts { nx := fun σ H => D.nx (σ.set i none) H, rt := D.rt, bk := fun σ H => D.bk (σ.set i none) H, ct := fun σ H => D.ct (σ.set i none) H } (σ'.set i (some (.ref e))) (upd H1 e (YO e C dd))
theorem ps_try {X : Cx} {body : List Stmt} {b0 : Stmt} {suite : List Stmt} {x n : Str} {np hpos pos : Pos} {R : Addr} {i : Nat} {Eb : XK} {tb ts : TS} (hN : X.N.Nodup) (hi : X.N[i]? = some n) (hl : X.env.scope.names.lookup n = some .local) (hst : X.stack = X.env :: X.outer ∧ X.env.frame = some X.env.locals ∧ X.ex = []) (hg : Gl X x) (hm : X.mg x = some (.ref R))
    (hb : ∀ E pn, Passes (CXE X.prog X.w) (X.around X.A X.calm E pn) Eb → PSs (X.around X.A X.calm E pn) body tb)
    (hs : ∀ v, PSs (X.around (X.A.mark v) false (fun _ _ => False) X.pn) (b0 :: suite) ts) (hd : (x == ("__debug__" : Str)) = false := by decide) :
    PS X (.Try body [.ExceptHandler (some (.Name x np)) (some n) (b0 :: suite) hpos] [] [] pos) (tTry X.K R X.N.length i Eb tb ts) := by
  intro pins s σ H D I h
  obtain ⟨h1, h2⟩ := h
  refine wpAny_Try_except ?_
  refine wpAny_mono (hb _ (X.pn ++ pins) ?_ [] s σ H D (I.around rfl I.ok.hd (fun p z => by simpa using z)) h1) (fun f s1 q => ?_) fun _ _ z => z
  · intro pins1 σ1 H1 s1 ev s2 I1 hx
    obtain ⟨e, T, cl, dd, H2, rfl, ho, hg2, un, hok, tr, he, hT, hHe, hHT, q⟩ := hx
    have I2 : Inv _ pins1 σ1 H2 s2 := I1.call' (ch := []) ho un hok hg2 fun b z => absurd z (by simp)
    have old : ∀ b, s1.heap.get? b = none → X.s₀.heap.get? b = none := fun b z => by
      cases y : X.s₀.heap.get? b with
      | none => rfl
      | some o =>
        obtain ⟨o', r⟩ := I1.base.there b o y (by show b ∉ X.ex; rw [hst.2.2]; simp)
        rw [z] at r; cases r
    have old2 : ∀ b, s2.heap.objs.size ≤ b → s1.heap.get? b = none := fun b z => by
      cases y : s1.heap.get? b with
      | none => rfl
      | some o =>
        obtain ⟨o', r⟩ := un.there b o y (by simp)
        exact absurd (Nat.lt_of_lt_of_le (Heap.lt_size r) z) (Nat.lt_irrefl _)
    have hfr : X.A.frames = some (X.env :: X.outer) := by rw [← hst.1]; exact I.ok.frames
    have hfs : frs X.stack = frs (X.env :: X.outer) := by rw [hst.1]
    have hfun : s2.heap.FunFrames X.base (X.env :: X.outer) := by rw [← hst.1]; exact I2.stack
    refine fly_note (base := X.base) hfr hfun hst.2.1 tr fun h3 T' hz D1 tr' => ?_
    refine fly_land (fs := frs (X.env :: X.outer)) tr' fun h4 _ D2 tr4 => ?_
    have D4 := D1.trans D2
    have hS : ∀ b ∈ [T, e] ++ [T'], s1.heap.get? b = none ∧ H2 b = none := fun b hb => by
      have hb : b = T ∨ b = e ∨ b = T' := by simpa using hb
      rcases hb with z | z | z
      · subst z; exact ⟨hT, hHT⟩
      · subst z; exact ⟨he, hHe⟩
      · subst z; exact ⟨old2 _ hz, hok.fresh hz⟩
    have I4 := I1.diff I2 (by show Diff _ (frs X.stack) _ _; rw [hfs]; exact D4) hS (fun b hb => old b (hS b hb).1)
    obtain ⟨C, rfl, ⟨bm, bR, xC, xR, hin⟩, hsu⟩ := h2 cl dd H2 q
    have I5 : Inv (X.around (X.A.mark (some (.ref e))) false (fun _ _ => False) X.pn) pins σ1 H2 { s2 with heap := h4 } := I4.around rfl (fun z => nomatch z) (fun p z => List.mem_append_left _ z)
    refine wpAny_handleBy_cons (codeAny_handlers_test (ld_glob I5 hg hm ?_ hd)) (fun z => nomatch z)
    obtain ⟨oe, vs, oT, ts', w1, w2, w3, w4, w5⟩ := id tr4
    refine x_matches (xC _ I5.kIn) (xR _ I5.kIn) w1 w2 hin ?_
    refine codeAny_handlers_suite_as ?_
    refine fly_land (s := { s2 with heap := h4 }) (fs := frs (X.env :: X.outer)) tr4 fun h6 _ D6 tr6 => ?_
    have hS6 : ∀ b ∈ [T'], s1.heap.get? b = none ∧ H2 b = none := fun b hb => hS b (List.mem_append_right _ hb)
    have I6 := I1.diff (s := { s2 with heap := h4 }) I4 (by show Diff _ (frs X.stack) _ _; rw [hfs]; exact D6) hS6 (fun b hb => old b (hS6 b hb).1)
    obtain ⟨oe6, vs6, oT6, ts6, y1, y2, y3, y4, y5⟩ := id tr6
    have I7 := I1.take I6 he hHe (old e he) (YAt.ok (C := C) (dd := dd) ⟨oe6, vs6, y1, y2, y3, y4⟩)
    have I8 : Inv (X.around (X.A.mark (some (.ref e))) false (fun _ _ => False) X.pn) pins σ1 (upd H2 e (YO e C dd)) { s2 with heap := h6 } := I7.around rfl (fun z => nomatch z) (fun p z => List.mem_append_left _ z)
    refine store_ok (X := X.around (X.A.mark (some (.ref e))) false (fun _ _ => False) X.pn) I8 hN hi (.inl hl) (v := V.ref e) rfl (fun s8 I9 => ?_) (.inr hl)
    refine wpAny_mono (hs (some (.ref e)) pins s8 _ _ _ I9 (hsu e σ1 hHe I1.len)) (fun f s9 q9 => ?_) fun _ _ z => z.elim
    cases f with
    | next =>
      obtain ⟨σ', H', J, q⟩ := q9
      exact Inv.gone (J.back I.ok (pins := pins) (fun p z => z)) hN hi hl fun s' J' => ⟨_, _, J', q⟩
    | brk =>
      obtain ⟨σ', H', J, q⟩ := q9
      exact Inv.gone (J.back I.ok (pins := pins) (fun p z => z)) hN hi hl fun s' J' => ⟨_, _, J', q⟩
    | cont =>
      obtain ⟨σ', H', J, q⟩ := q9
      exact Inv.gone (J.back I.ok (pins := pins) (fun p z => z)) hN hi hl fun s' J' => ⟨_, _, J', q⟩
    | ret u =>
      obtain ⟨v, σ', H', J, rv, q⟩ := q9
      exact Inv.gone (J.back I.ok (pins := pins) (fun p z => z)) hN hi hl fun s' J' => ⟨v, _, _, J', rv, q⟩
  · cases f with
    | next =>
      obtain ⟨σ', H', J, q⟩ := q
      exact wpAny_execs_nil ⟨σ', H', J.back I.ok (fun p z => by simpa using z), q⟩
    | brk => obtain ⟨σ', H', J, q⟩ := q; exact ⟨σ', H', J.back I.ok (fun p z => by simpa using z), q⟩
    | cont => obtain ⟨σ', H', J, q⟩ := q; exact ⟨σ', H', J.back I.ok (fun p z => by simpa using z), q⟩
    | ret u => obtain ⟨v, σ', H', J, rv, q⟩ := q; exact ⟨v, σ', H', J.back I.ok (fun p z => by simpa using z), rv, q⟩
end L2

namespace Rope
/-! moments over one bottom, 2 ^ N -/
def vl (N : Nat) (m : M) : Int := m.1 * 2 ^ (N - m.2)
theorem pow_split {N a b : Nat} (h : a + b = N) : (2 : Int) ^ N = 2 ^ a * 2 ^ b := by rw [← h, Int.pow_add]
theorem vl_low (N : Nat) : ∀ (k : Nat) (t : Int), k ≤ N → vl N (lowN t k) = t * 2 ^ (N - k)
  | 0, t, _ => rfl
  | k + 1, t, h => by
    unfold lowN
    by_cases e : t % 2 = 0
    · rw [if_pos e, vl_low N k _ (by omega)]
      have e1 : (2 : Int) ^ (N - k) = 2 ^ (N - (k + 1)) * 2 := by rw [← Int.pow_succ]; congr 1; omega
      have e2 : t = t / 2 * 2 := by omega
      rw [e1]
      conv => rhs; rw [e2]
      grind
    · rw [if_neg e]; rfl
theorem vl_over (N : Nat) (m : M) (k : Nat) (h1 : m.2 ≤ k) (h2 : k ≤ N) : overM m k * 2 ^ (N - k) = vl N m := by
  unfold overM vl
  rw [Int.mul_assoc, ← Int.pow_add]
  congr 2; omega
theorem add_prog (m n : M) : lowN (overM m (max m.2 n.2) + overM n (max m.2 n.2)) (max m.2 n.2) = addM m n := by
  unfold addM
  refine lowN_eq ?_
  have h1 : (2 : Int) ^ (m.2 + n.2) * overM m (max m.2 n.2) = m.1 * 2 ^ n.2 * 2 ^ (max m.2 n.2) := by
    unfold overM
    have : (2 : Int) ^ (max m.2 n.2) = 2 ^ (max m.2 n.2 - m.2) * 2 ^ m.2 := by rw [← Int.pow_add]; congr 1; omega
    rw [this, Int.pow_add]; grind
  have h2 : (2 : Int) ^ (m.2 + n.2) * overM n (max m.2 n.2) = n.1 * 2 ^ m.2 * 2 ^ (max m.2 n.2) := by
    unfold overM
    have : (2 : Int) ^ (max m.2 n.2) = 2 ^ (max m.2 n.2 - n.2) * 2 ^ n.2 := by rw [← Int.pow_add]; congr 1; omega
    rw [this, Int.pow_add]; grind
  grind
theorem vl_add {N : Nat} {m n : M} (hm : m.2 ≤ N) (hn : n.2 ≤ N) : vl N (addM m n) = vl N m + vl N n := by
  rw [← add_prog, vl_low _ _ _ (by omega), Int.add_mul, vl_over _ _ _ (by omega) (by omega), vl_over _ _ _ (by omega) (by omega)]
theorem vl_one (N : Nat) : vl N (1, 0) = 2 ^ N := by unfold vl; simp
theorem vl_zero (N : Nat) : vl N (0, 0) = 0 := by unfold vl; simp
theorem vl_hour {N : Nat} {m : M} (hm : m.2 ≤ N) : vl N (hourM m) = vl N m + 2 ^ N := by
  unfold hourM
  rw [vl_add hm (Nat.zero_le _), vl_one]
theorem vl_half {N : Nat} {m : M} (hm : m.2 + 1 ≤ N) : 2 * vl N (halfM m) = vl N m := by
  unfold halfM
  rw [vl_low _ _ _ hm]
  unfold vl
  have e1 : (2 : Int) ^ (N - m.2) = 2 ^ (N - (m.2 + 1)) * 2 := by rw [← Int.pow_succ]; congr 1; omega
  rw [e1]; grind
theorem vl_mean {N : Nat} {m n : M} (hm : m.2 + 1 ≤ N) (hn : n.2 + 1 ≤ N) : 2 * vl N (meanM m n) = vl N m + vl N n + 2 ^ N := by
  rw [← mean_prog, vl_low _ _ _ (by omega)]
  have h1 := vl_over N m (max m.2 n.2) (by omega) (by omega)
  have h2 := vl_over N n (max m.2 n.2) (by omega) (by omega)
  have e1 : (2 : Int) ^ (N - max m.2 n.2) = 2 ^ (N - (max m.2 n.2 + 1)) * 2 := by rw [← Int.pow_succ]; congr 1; omega
  have e2 : (2 : Int) ^ N = 2 ^ (max m.2 n.2) * 2 ^ (N - max m.2 n.2) := by rw [← Int.pow_add]; congr 1; omega
  rw [← h1, ← h2, e2, e1]; grind
theorem vl_less {N : Nat} {m n : M} (hm : m.2 ≤ N) (hn : n.2 ≤ N) : lessM m n = decide (vl N m < vl N n) := by
  rw [← less_prog, ← vl_over N m (max m.2 n.2) (by omega) (by omega), ← vl_over N n (max m.2 n.2) (by omega) (by omega)]
  have p := pow_pos (N - max m.2 n.2)
  refine decide_eq_decide.mpr ⟨fun h => Int.mul_lt_mul_of_pos_right h p, fun h => Int.lt_of_mul_lt_mul_right h (Int.le_of_lt p)⟩
theorem vl_gap {N : Nat} {m n : M} (hm : m.2 ≤ N) (hn : n.2 ≤ N) : vl N (gapM m n) = if vl N m < vl N n then vl N n - vl N m else vl N m - vl N n := by
  have h := vl_less hm hn
  have h1 := vl_over N m (max m.2 n.2) (by omega) (by omega)
  have h2 := vl_over N n (max m.2 n.2) (by omega) (by omega)
  have hl := less_prog m n
  rw [← gap_prog, vl_low _ _ _ (by omega)]
  rw [h] at hl
  by_cases c : vl N m < vl N n
  · rw [decide_eq_true c] at hl
    have c2 := of_decide_eq_true hl
    rw [if_pos c, if_pos (by omega), ← h1, ← h2]; grind
  · rw [decide_eq_false c] at hl
    have c2 := of_decide_eq_false hl
    rw [if_neg c, if_neg (by omega), ← h1, ← h2]; grind
theorem vl_inj {N : Nat} {m n : M} (hm : m.2 ≤ N) (hn : n.2 ≤ N) (cm : Canon m) (cn : Canon n) (h : vl N m = vl N n) : m = n := by
  refine canon_eq cm cn ?_
  unfold vl at h
  have e1 : (2 : Int) ^ (N - m.2) * 2 ^ m.2 = 2 ^ N := by rw [← Int.pow_add]; congr 1; omega
  have e2 : (2 : Int) ^ (N - n.2) * 2 ^ n.2 = 2 ^ N := by rw [← Int.pow_add]; congr 1; omega
  have p := pow_pos N
  have h3 : m.1 * 2 ^ n.2 * 2 ^ N = n.1 * 2 ^ m.2 * 2 ^ N := by
    conv => lhs; rw [← e1]
    conv => rhs; rw [← e2]
    have : m.1 * 2 ^ n.2 * (2 ^ (N - m.2) * 2 ^ m.2) = (m.1 * 2 ^ (N - m.2)) * (2 ^ n.2 * 2 ^ m.2) := by grind
    rw [this, h]; grind
  exact Int.eq_of_mul_eq_mul_right (by omega) h3
theorem canon_add (m n : M) : Canon (addM m n) := lowN_canon _ _
theorem canon_hour (m : M) : Canon (hourM m) := lowN_canon _ _
theorem canon_mean (m n : M) : Canon (meanM m n) := lowN_canon _ _
theorem canon_gap (m n : M) : Canon (gapM m n) := by unfold gapM; split <;> exact lowN_canon _ _
theorem add_le (m n : M) : (addM m n).2 ≤ max m.2 n.2 := by rw [← add_prog]; exact lowN_le _ _
theorem hour_le (m : M) : (hourM m).2 ≤ m.2 := by rw [← hour_prog]; exact lowN_le _ _
theorem mean_le (m n : M) : (meanM m n).2 ≤ max m.2 n.2 + 1 := by rw [← mean_prog]; exact lowN_le _ _
theorem gap_le (m n : M) : (gapM m n).2 ≤ max m.2 n.2 := by rw [← gap_prog]; exact lowN_le _ _

/-! ropes and plans -/
abbrev Tau := Int × Option Int
def litM (ms : List M) (e : Int) : M := if e = -1 then (0, 0) else ms.getD e.toNat (0, 0)
def outR (ms : List M) (r : Tau) : Option M := match r.2 with
  | none => some (hourM (litM ms r.1))
  | some o => if lessM (gapM (litM ms r.1) (litM ms o)) (1, 0) = true then some (meanM (litM ms r.1) (litM ms o)) else none
def outsM : List Tau → List M → List M × Option Nat
  | [], ms => (ms, none)
  | r :: rs, ms => match outR ms r with
    | some m => outsM rs (ms ++ [m])
    | none => (ms, some ms.length)
/-- a rope at place k -/
def TauOk (k : Nat) (r : Tau) : Prop := -1 ≤ r.1 ∧ r.1 < k ∧ ∀ o, r.2 = some o → r.1 ≤ o ∧ o < k
def PlanOk (rs : List Tau) : Prop := ∀ i r, rs[i]? = some r → TauOk i r
/-- a moment of a plan of k ropes -/
structure Gd (k : Nat) (m : M) : Prop where
  e : m.2 ≤ k
  lo : 0 ≤ m.1
  hi : vl k m ≤ k * 2 ^ k
  c : Canon m
theorem vl_nonneg {N : Nat} {m : M} (h : 0 ≤ m.1) : 0 ≤ vl N m := Int.mul_nonneg h (Int.le_of_lt (pow_pos _))
theorem nonneg_vl {N : Nat} {m : M} (h : 0 ≤ vl N m) : 0 ≤ m.1 := by
  unfold vl at h
  have p := pow_pos (N - m.2)
  rcases Int.lt_or_le m.1 0 with z | z
  · have := Int.mul_neg_of_neg_of_pos z p
    omega
  · exact z
theorem vl_up {N k : Nat} {m : M} (h : m.2 ≤ k) (hk : k ≤ N) : vl N m = vl k m * 2 ^ (N - k) := by
  unfold vl
  rw [Int.mul_assoc, ← Int.pow_add]; congr 2; omega
theorem Gd.mono {j k : Nat} {m : M} (h : Gd j m) (e : j ≤ k) : Gd k m := by
  refine ⟨Nat.le_trans h.e e, h.lo, ?_, h.c⟩
  rw [vl_up h.e e]
  have p := pow_pos (k - j)
  have h1 := Int.mul_le_mul_of_nonneg_right h.hi (Int.le_of_lt p)
  have e2 : (2 : Int) ^ k = 2 ^ j * 2 ^ (k - j) := by rw [← Int.pow_add]; congr 1; omega
  have p2 := pow_pos k
  have h3 : (j : Int) * 2 ^ k ≤ k * 2 ^ k := Int.mul_le_mul_of_nonneg_right (by omega) (Int.le_of_lt p2)
  rw [Int.mul_assoc, ← e2] at h1
  exact Int.le_trans h1 h3
theorem gd_zero (k : Nat) : Gd k (0, 0) := ⟨Nat.zero_le _, Int.le_refl _, by rw [vl_zero]; exact Int.mul_nonneg (by omega) (Int.le_of_lt (pow_pos k)), .inl rfl⟩
theorem gd_hour {k : Nat} {m : M} (h : Gd k m) : Gd (k + 1) (hourM m) := by
  have h' := h.mono (Nat.le_succ k)
  have e := vl_hour (N := k + 1) h'.e
  have p := pow_pos (k + 1)
  have n0 := vl_nonneg (N := k + 1) h.lo
  refine ⟨Nat.le_trans (hour_le m) h'.e, nonneg_vl (N := k + 1) (by omega), ?_, canon_hour m⟩
  have h3 := Int.mul_le_mul_of_nonneg_right h.hi (Int.le_of_lt (pow_pos 1))
  have e4 := vl_up (N := k + 1) h.e (Nat.le_succ k)
  have e5 : k + 1 - k = 1 := by omega
  rw [e5] at e4
  have e6 : (2 : Int) ^ (k + 1) = 2 ^ k * 2 ^ 1 := Int.pow_add ..
  rw [e]
  have e7 : ((k + 1 : Nat) : Int) * 2 ^ (k + 1) = (k : Int) * 2 ^ k * 2 ^ 1 + 2 ^ (k + 1) := by rw [e6]; push_cast; grind
  rw [e7]; omega
theorem gd_mean {k : Nat} {m n : M} (hm : Gd k m) (hn : Gd k n) : Gd (k + 1) (meanM m n) := by
  have e := vl_mean (N := k + 1) (m := m) (n := n) (by have := hm.e; omega) (by have := hn.e; omega)
  have p := pow_pos (k + 1)
  have n0 := vl_nonneg (N := k + 1) hm.lo
  have n1 := vl_nonneg (N := k + 1) hn.lo
  refine ⟨Nat.le_trans (mean_le m n) (by have := hm.e; have := hn.e; omega), nonneg_vl (N := k + 1) (by omega), ?_, canon_mean m n⟩
  have h3 := Int.mul_le_mul_of_nonneg_right hm.hi (Int.le_of_lt (pow_pos 1))
  have h4 := Int.mul_le_mul_of_nonneg_right hn.hi (Int.le_of_lt (pow_pos 1))
  have e4 := vl_up (N := k + 1) hm.e (Nat.le_succ k)
  have e5 := vl_up (N := k + 1) hn.e (Nat.le_succ k)
  have e0 : k + 1 - k = 1 := by omega
  rw [e0] at e4 e5
  have e6 : (2 : Int) ^ (k + 1) = 2 ^ k * 2 ^ 1 := Int.pow_add ..
  have e7 : ((k + 1 : Nat) : Int) * 2 ^ (k + 1) = (k : Int) * 2 ^ k * 2 ^ 1 + 2 ^ (k + 1) := by rw [e6]; push_cast; grind
  rw [e7]; omega
/-- all moments so far -/
def GdL (ms : List M) : Prop := ∀ i m, ms[i]? = some m → Gd (i + 1) m
theorem GdL.lit {ms : List M} (h : GdL ms) {e : Int} (h1 : e < ms.length) : Gd ms.length (litM ms e) := by
  unfold litM
  split
  · exact gd_zero _
  · by_cases z : e.toNat < ms.length
    · rw [List.getD_eq_getElem?_getD, List.getElem?_eq_getElem z]
      exact (h _ _ (List.getElem?_eq_getElem z)).mono z
    · rw [List.getD_eq_getElem?_getD, List.getElem?_eq_none (by omega)]
      exact gd_zero _
theorem GdL.out {ms : List M} (h : GdL ms) {r : Tau} {m : M} (hr : TauOk ms.length r) (e : outR ms r = some m) : Gd (ms.length + 1) m := by
  unfold outR at e
  split at e
  · cases e
    exact gd_hour (h.lit hr.2.1)
  · rename_i o ho
    split at e
    · cases e
      exact gd_mean (h.lit hr.2.1) (h.lit (hr.2.2 o ho).2)
    · cases e
theorem GdL.snoc {ms : List M} (h : GdL ms) {m : M} (hm : Gd (ms.length + 1) m) : GdL (ms ++ [m]) := by
  intro i n e
  by_cases z : i < ms.length
  · rw [List.getElem?_append_left z] at e
    exact h i n e
  · rw [List.getElem?_append_right (by omega)] at e
    have z2 : i - ms.length = 0 := by
      rcases Nat.eq_zero_or_pos (i - ms.length) with y | y
      · exact y
      · rw [List.getElem?_eq_none (by simp; omega)] at e; cases e
    rw [z2] at e
    cases e
    have z3 : i = ms.length := by omega
    rw [z3]; exact hm
theorem gdl_nil : GdL [] := fun i m e => by simp at e
theorem outsM_len : ∀ (rs : List Tau) (ms : List M), (outsM rs ms).2 = none → (outsM rs ms).1.length = ms.length + rs.length
  | [], ms, _ => by simp [outsM]
  | r :: rs, ms, h => by
    unfold outsM at h ⊢
    cases e : outR ms r with
    | none => rw [e] at h; simp at h
    | some m =>
      rw [e] at h
      simp only at h ⊢
      rw [outsM_len rs _ h]
      simp; omega
theorem Gd.small {k : Nat} {m : M} (h : Gd k m) (hk : k ≤ 40) : m.1.natAbs < 2 ^ 1000 ∧ m.2 ≤ 1000 := by
  have h' := h.mono hk
  have h1 := h'.hi
  have h2 := h'.lo
  refine ⟨?_, Nat.le_trans h.e (Nat.le_trans hk (by decide))⟩
  unfold vl at h1
  have p := pow_ge1 (40 - m.2)
  have h3 : m.1 * 1 ≤ m.1 * 2 ^ (40 - m.2) := Int.mul_le_mul_of_nonneg_left p h2
  have h4 : m.1 ≤ 40 * 2 ^ 40 := by omega
  have h5 : m.1.natAbs < 2 ^ 100 := by omega
  exact Nat.lt_of_lt_of_le h5 (Nat.pow_le_pow_right (by decide) (by decide))
end Rope

set_option maxHeartbeats 4000000
namespace L2
open PySem PySem.Spec PyProof.Rows
/-! ### own exception classes over ValueError, as the top has made them -/
abbrev vMro : List Value := [.type "ValueError", .type "Exception", .type "BaseException", .type "object"]
def ClObj (K : PySem.W.Frag) (C : Addr) (bm : List Value) : Prop := ∃ (nm q : Str) (N : Addr) (bs : List Value) (hdct : Bool) (sn : List Str) (sub : List Value) (ab : Bool) (col : Option Bool) (dd : Option Addr) (k0 k1 k2 k3 k5 : Option Value),
  K.lookup C = some (excClassObj nm q C N bs bm hdct sn sub ab col dd k0 k1 k2 k3 k5 "ValueError.__new__")
section
variable {K : PySem.W.Frag} {C R D : Addr} {bm bm' : List Value}
theorem ClObj.k (h : ClObj K C (.ref R :: vMro)) : XClK K C := by
  obtain ⟨nm, q, N, bs, hdct, sn, sub, ab, col, dd, k0, k1, k2, k3, k5, e⟩ := h
  exact ⟨R, nm, q, N, bs, hdct, sn, sub, ab, col, dd, k0, k1, k2, k3, k5, e⟩
theorem ClObj.cls (h : ClObj K C bm) : ∃ cd : ClassData, PySem.W.clsIn K C = some cd ∧ cd.mro = .ref C :: bm := by
  obtain ⟨nm, q, N, bs, hdct, sn, sub, ab, col, dd, k0, k1, k2, k3, k5, e⟩ := h
  have h : PySem.W.clsIn K C = some { name := nm, bases := bs, mro := .ref C :: bm, ns := N, qualname := q, hasDict := hdct, slotNames := sn, subclasses := sub, abstract := ab, collection := col, hasDel := false } := by
    unfold PySem.W.clsIn; rw [e]
  exact ⟨_, h, rfl⟩
theorem ClObj.mro (h : ClObj K C bm) (b : Value) : PySem.W.mroIn K C b = some ((Value.ref C :: bm).contains b) := by
  obtain ⟨cd, e, m⟩ := h.cls
  unfold PySem.W.mroIn
  rw [e]
  show (if cd.mro.isEmpty = true then none else some (cd.mro.contains b)) = _
  rw [m]
  rfl
theorem ClObj.ty (h : ClObj K C bm) : PySem.W.typeIn K (.ref C) = some (.type "type") := by
  obtain ⟨nm, q, N, bs, hdct, sn, sub, ab, col, dd, k0, k1, k2, k3, k5, e⟩ := h
  show (K.lookup C).map (·.cls) = _
  rw [e]; rfl
theorem ClObj.kit (h : ClObj K C bm) (h' : ClObj K D bm') : PySem.W.kitOne K (.ref C) (.ref D) = some ((Value.ref C :: bm).contains (.ref D)) := by
  unfold PySem.W.kitOne
  by_cases z : (Value.ref C == Value.ref D) = true
  · rw [if_pos z]
    have e : Value.ref C = Value.ref D := beq_iff_eq.mp z
    rw [← e, List.contains_cons, show (Value.ref C == Value.ref C) = true from beq_self_eq_true _]; rfl
  · rw [if_neg z]
    unfold PySem.W.kitCls
    obtain ⟨cd, e, _⟩ := h'.cls
    show (if ((PySem.W.clsIn K D).isSome && PySem.W.typeIn K (.ref D) == some (.type "type")) = true then PySem.W.subIn K (.ref C) (.ref D) else none) = _
    rw [e, h'.ty, if_pos (by simp)]
    exact h.mro _
theorem ClObj.kitV (h : ClObj K C bm) : PySem.W.kitOne K (.ref C) (.type "ValueError") = some ((Value.ref C :: bm).contains (.type "ValueError")) := by
  unfold PySem.W.kitOne
  rw [if_neg (by intro z; cases beq_iff_eq.mp z)]
  unfold PySem.W.kitCls
  show (if PySem.W.kitMeta "ValueError" = true then PySem.W.subIn K (.ref C) (.type "ValueError") else none) = _
  rw [if_pos (by decide +kernel)]
  exact h.mro _
theorem ClObj.x (h : ClObj K C bm) (va : bm.contains (.type "ValueError") = true) (ba : bm.contains (.type "BaseException") = true) (na : bm.contains (.type "AttributeError") = false) (nn : bm.contains (.type "NameError") = false) : ∀ hp, K.In hp → XCls hp C bm := by
  obtain ⟨nm, q, N, bs, hdct, sn, sub, ab, col, dd, k0, k1, k2, k3, k5, e⟩ := h
  exact fun hp X => ⟨⟨nm, q, N, bs, hdct, sn, sub, ab, col, dd, k0, k1, k2, k3, k5, X _ _ e⟩, va, ba, na, nn⟩
end
/-- RopeError -/
structure XR (K : PySem.W.Frag) (mg : Str → Option Value) (R : Addr) : Prop where
  m : mg "RopeError" = some (.ref R)
  ob : ClObj K R vMro
/-- a class without an __init__ of its own, under R -/
structure XN (K : PySem.W.Frag) (mg : Str → Option Value) (x : Str) (R N : Addr) : Prop where
  m : mg x = some (.ref N)
  ob : ClObj K N (.ref R :: vMro)
  g : XGet K N
  kp : PySem.W.keepIn K (.ref N) = true
/-- Late, under R -/
structure XL (K : PySem.W.Frag) (mg : Str → Option Value) (st : Stmt) (R L f : Addr) (fd : FuncData) : Prop where
  m : mg "Late" = some (.ref L)
  ob : ClObj K L (.ref R :: vMro)
  ini : XIni K R
  init : PySem.W.findIn K (.ref L) "__init__" = some (some (.ref f))
  fn : PySem.W.isFn K (.ref f) = true
  kp : PySem.W.keepIn K (.ref L) = true
  sa : PySem.W.findIn K (.ref L) "__setattr__" = some (some (.builtin "object.__setattr__"))
  no : PySem.W.takerIn K L "rope" = some none
  g : XGet K L
  nr : PySem.W.findIn K (.ref L) "rope" = some none
  F : Fun K "__init__" "Late.__init__" st f fd
  b : Binds K fd ["self", "rope"] []
section
variable {K : PySem.W.Frag} {mg : Str → Option Value} {st : Stmt} {R L f : Addr} {fd : FuncData}
theorem XL.mk' (x : XL K mg st R L f fd) : XMk K L f := ⟨x.ob.k, x.init, x.fn, x.kp⟩
theorem XL.set (x : XL K mg st R L f fd) : XSet K L "rope" := by
  obtain ⟨cd, e, m⟩ := x.ob.cls
  refine ⟨x.sa, ⟨cd, e, ?_, R, m⟩, x.g.ob, x.no⟩
  have := x.g.hd
  unfold PySem.W.hasDictIn at this
  rw [e] at this
  exact this
end
end L2

namespace Rope
/-! a drawn plan -/
def ropeN (c d : Int) (k : Nat) : Tau :=
  if d % 4 = 3 then (c % (k + 1) - 1, none)
  else if d % 4 = 2 then (c % (k + 1) - 1, some (c % (k + 1) - 1))
  else (c % (k + 1) - 1, some (c % (k + 1) - 1 + d / 4 % (k - (c % (k + 1) - 1))))
def planN (ns : List Int) (s n : Nat) : List Tau := (List.range n).map fun k => ropeN (ns.getD (s + 2 * k) 0) (ns.getD (s + 2 * k + 1) 0) k
theorem rope_ok (c d : Int) (k : Nat) : TauOk k (ropeN c d k) := by
  have h0 : 0 ≤ c % (k + 1) := Int.emod_nonneg _ (by omega)
  have h1 : c % (k + 1) < k + 1 := Int.emod_lt_of_pos _ (by omega)
  unfold ropeN
  generalize c % (k + 1) = x at h0 h1
  split
  · exact ⟨by show -1 ≤ x - 1; omega, by show x - 1 < k; omega, fun o h => by cases h⟩
  · split
    · exact ⟨by show -1 ≤ x - 1; omega, by show x - 1 < k; omega, fun o h => by cases h; exact ⟨by show x - 1 ≤ x - 1; omega, by omega⟩⟩
    · have h2 : 0 ≤ d / 4 % (k - (x - 1)) := Int.emod_nonneg _ (by omega)
      have h3 : d / 4 % (k - (x - 1)) < k - (x - 1) := Int.emod_lt_of_pos _ (by omega)
      refine ⟨by show -1 ≤ x - 1; omega, by show x - 1 < k; omega, fun o h => ?_⟩
      cases h
      generalize d / 4 % (k - (x - 1)) = y at h2 h3
      exact ⟨by show x - 1 ≤ x - 1 + y; omega, by omega⟩
theorem plan_len (ns : List Int) (s n : Nat) : (planN ns s n).length = n := by unfold planN; simp
theorem plan_get {ns : List Int} {s n i : Nat} (h : i < n) : (planN ns s n)[i]? = some (ropeN (ns.getD (s + 2 * i) 0) (ns.getD (s + 2 * i + 1) 0) i) := by
  unfold planN
  rw [List.getElem?_map, List.getElem?_range h]; rfl
theorem plan_ok (ns : List Int) (s n : Nat) : PlanOk (planN ns s n) := by
  intro i r h
  have hi : i < n := by
    have := (List.getElem?_eq_some_iff.mp h).1
    rw [plan_len] at this; exact this
  rw [plan_get hi] at h
  cases h
  exact rope_ok _ _ _
theorem plan_succ (ns : List Int) (s n : Nat) : planN ns s (n + 1) = planN ns s n ++ [ropeN (ns.getD (s + 2 * n) 0) (ns.getD (s + 2 * n + 1) 0) n] := by
  unfold planN
  rw [List.range_succ, List.map_append]; rfl
end Rope

namespace Rope
/-! what is left of a rope -/
def strM (m n : M) : M := if lessM m n = true then gapM m n else (0, 0)
def endsM (r : Tau) : List Int := r.1 :: (match r.2 with | none => [] | some o => [o])
def leftM (ms : List M) (t : M) (r : Tau) : M := (endsM r).foldl (fun rest e => strM (strM (litM ms e) t) rest) (1, 0)
def eatenM (ms : List M) (t : M) (r : Tau) : M := (endsM r).foldl (fun acc e => if lessM (litM ms e) t = true then addM acc (gapM (litM ms e) t) else acc) (0, 0)
def lleftM (ms : List M) (t : M) (r : Tau) (out : M) : M := if lessM t out = true then gapM (eatenM ms t r) (1, 0) else (0, 0)
/-- a moment or a stretch that is not too large -/
structure Bd (m : M) : Prop where
  e : m.2 ≤ 40
  lo : 0 ≤ vl 40 m
  c : Canon m
theorem bd_zero : Bd (0, 0) := ⟨by decide, by rw [vl_zero]; decide, .inl rfl⟩
theorem bd_one : Bd (1, 0) := ⟨by decide, by rw [vl_one]; decide, .inl rfl⟩
theorem Gd.bd {k : Nat} {m : M} (h : Gd k m) (hk : k ≤ 40) : Bd m := ⟨Nat.le_trans h.e hk, vl_nonneg h.lo, h.c⟩
theorem bd_gap {m n : M} (hm : Bd m) (hn : Bd n) : Bd (gapM m n) := by
  have z := vl_gap (N := 40) hm.e hn.e
  have := gap_le m n
  have h1 := hm.e
  have h2 := hn.e
  exact ⟨by omega, by rw [z]; split <;> omega, canon_gap m n⟩
theorem bd_str {m n : M} (hm : Bd m) (hn : Bd n) : Bd (strM m n) := by
  unfold strM; split
  · exact bd_gap hm hn
  · exact bd_zero
theorem bd_add {m n : M} (hm : Bd m) (hn : Bd n) : Bd (addM m n) := by
  have z := vl_add (N := 40) hm.e hn.e
  have := add_le m n
  have h1 := hm.e
  have h2 := hn.e
  have l1 := hm.lo
  have l2 := hn.lo
  exact ⟨by omega, by rw [z]; omega, canon_add m n⟩
theorem vl_str {m n : M} (hm : Bd m) (hn : Bd n) : vl 40 (strM m n) = if vl 40 m < vl 40 n then vl 40 n - vl 40 m else 0 := by
  unfold strM
  rw [vl_less (N := 40) hm.e hn.e]
  by_cases c : vl 40 m < vl 40 n
  · rw [decide_eq_true c, if_pos rfl, vl_gap hm.e hn.e, if_pos c, if_pos c]
  · rw [decide_eq_false c, if_neg (by decide), if_neg c, vl_zero]
theorem bd_eq {m n : M} (hm : Bd m) (hn : Bd n) (h : vl 40 m = vl 40 n) : m = n := vl_inj hm.e hn.e hm.c hn.c h
theorem bd_left {ms : List M} {t : M} (ht : Bd t) : ∀ (es : List Int), (∀ e ∈ es, Bd (litM ms e)) → ∀ r, Bd r → Bd (es.foldl (fun rest e => strM (strM (litM ms e) t) rest) r)
  | [], _, r, hr => hr
  | e :: es, h, r, hr => bd_left ht es (fun x hx => h x (List.mem_cons_of_mem _ hx)) _ (bd_str (bd_str (h e List.mem_cons_self) ht) hr)
theorem bd_eaten {ms : List M} {t : M} (ht : Bd t) : ∀ (es : List Int), (∀ e ∈ es, Bd (litM ms e)) → ∀ r, Bd r → Bd (es.foldl (fun acc e => if lessM (litM ms e) t = true then addM acc (gapM (litM ms e) t) else acc) r)
  | [], _, r, hr => hr
  | e :: es, h, r, hr => by
    refine bd_eaten ht es (fun x hx => h x (List.mem_cons_of_mem _ hx)) _ ?_
    show Bd (if lessM (litM ms e) t = true then addM r (gapM (litM ms e) t) else r)
    split
    · exact bd_add hr (bd_gap (h e List.mem_cons_self) ht)
    · exact hr
theorem str_or {m n : M} (hm : Bd m) (hn : Bd n) : (vl 40 m < vl 40 n ∧ vl 40 (strM m n) = vl 40 n - vl 40 m) ∨ (vl 40 n ≤ vl 40 m ∧ vl 40 (strM m n) = 0) := by
  have h := vl_str hm hn
  by_cases c : vl 40 m < vl 40 n
  · rw [if_pos c] at h; exact .inl ⟨c, h⟩
  · rw [if_neg c] at h; exact .inr ⟨by omega, h⟩
theorem gap_or {m n : M} (hm : Bd m) (hn : Bd n) : (vl 40 m < vl 40 n ∧ vl 40 (gapM m n) = vl 40 n - vl 40 m) ∨ (vl 40 n ≤ vl 40 m ∧ vl 40 (gapM m n) = vl 40 m - vl 40 n) := by
  have h := vl_gap (N := 40) hm.e hn.e
  by_cases c : vl 40 m < vl 40 n
  · rw [if_pos c] at h; exact .inl ⟨c, h⟩
  · rw [if_neg c] at h; exact .inr ⟨by omega, h⟩
theorem left_eq {ms : List M} {t : M} {r : Tau} {out : M} (ht : Bd t) (h1 : Bd (litM ms r.1)) (h2 : ∀ o, r.2 = some o → Bd (litM ms o)) (k1 : (litM ms r.1).2 + 1 ≤ 40) (k2 : ∀ o, r.2 = some o → (litM ms o).2 + 1 ≤ 40) (ho : outR ms r = some out) :
    leftM ms t r = lleftM ms t r out := by
  have ends : ∀ e ∈ endsM r, Bd (litM ms e) := by
    intro e he
    unfold endsM at he
    rcases List.mem_cons.mp he with z | z
    · rw [z]; exact h1
    · cases hr : r.2 with
      | none => rw [hr] at z; cases z
      | some o =>
        rw [hr] at z
        have : e = o := by simpa using z
        rw [this]; exact h2 o hr
  have B1 : Bd (leftM ms t r) := bd_left ht _ ends _ bd_one
  have B3 : Bd (eatenM ms t r) := bd_eaten ht _ ends _ bd_zero
  have B2 : Bd (lleftM ms t r out) := by
    unfold lleftM; split
    · exact bd_gap B3 bd_one
    · exact bd_zero
  refine bd_eq B1 B2 ?_
  have l1 := h1.lo
  have lt := ht.lo
  have u0 : vl 40 ((1, 0) : M) = 2 ^ 40 := vl_one 40
  have z0 : vl 40 ((0, 0) : M) = 0 := vl_zero 40
  have T1 := str_or h1 ht
  have L1 := vl_less (N := 40) h1.e ht.e
  have G1 := gap_or h1 ht
  have b1 := bd_str h1 ht
  have g1 := bd_gap h1 ht
  have S1 := str_or b1 bd_one
  have a1 := bd_add bd_zero g1
  have A1 := vl_add (N := 40) (m := (0, 0)) (n := gapM (litM ms r.1) t) (by decide) g1.e
  have GG1 := gap_or a1 bd_one
  have G0 := gap_or bd_zero bd_one
  unfold outR at ho
  cases hr : r.2 with
  | none =>
    rw [hr] at ho
    cases ho
    have O := vl_hour (N := 40) h1.e
    have bo : (hourM (litM ms r.1)).2 ≤ 40 := Nat.le_trans (hour_le _) h1.e
    have LO := vl_less (N := 40) ht.e bo
    unfold leftM lleftM eatenM endsM
    rw [hr]
    simp only [List.foldl_cons, List.foldl_nil]
    rw [LO, L1]
    by_cases c1 : vl 40 (litM ms r.1) < vl 40 t
    · by_cases c2 : vl 40 t < vl 40 (hourM (litM ms r.1))
      · rw [decide_eq_true c1, decide_eq_true c2, if_pos rfl, if_pos rfl]; omega
      · rw [decide_eq_true c1, decide_eq_false c2, if_neg (by decide : ¬ false = true)]; omega
    · have c2 : vl 40 t < vl 40 (hourM (litM ms r.1)) := by omega
      rw [decide_eq_false c1, decide_eq_true c2, if_pos rfl, if_neg (by decide : ¬ false = true)]; omega
  | some o =>
    have b2 := h2 o hr
    have l2 := b2.lo
    rw [hr] at ho
    have T2 := str_or b2 ht
    have L2 := vl_less (N := 40) b2.e ht.e
    have G2 := gap_or b2 ht
    have GP := gap_or h1 b2
    have LP := vl_less (N := 40) (m := gapM (litM ms r.1) (litM ms o)) (n := (1, 0)) (bd_gap h1 b2).e (by decide)
    simp only at ho
    by_cases c : lessM (gapM (litM ms r.1) (litM ms o)) (1, 0) = true
    · rw [if_pos c] at ho
      cases ho
      rw [LP] at c
      have c' := of_decide_eq_true c
      have O := vl_mean (N := 40) (k1) (k2 o hr)
      have bo : (meanM (litM ms r.1) (litM ms o)).2 ≤ 40 := by
        have := mean_le (litM ms r.1) (litM ms o)
        have := k2 o hr
        omega
      have LO := vl_less (N := 40) ht.e bo
      have g2 := bd_gap b2 ht
      have S2 := str_or (bd_str b2 ht) (bd_str b1 bd_one)
      have A2 := vl_add (N := 40) (m := (0, 0)) (n := gapM (litM ms o) t) (by decide) g2.e
      have A3 := vl_add (N := 40) (m := addM (0, 0) (gapM (litM ms r.1) t)) (n := gapM (litM ms o) t) a1.e g2.e
      have GG2 := gap_or (bd_add bd_zero g2) bd_one
      have GG3 := gap_or (bd_add a1 g2) bd_one
      unfold leftM lleftM eatenM endsM
      rw [hr]
      simp only [List.foldl_cons, List.foldl_nil]
      rw [LO, L1, L2]
      by_cases c1 : vl 40 (litM ms r.1) < vl 40 t
      · by_cases c2 : vl 40 (litM ms o) < vl 40 t
        · by_cases c3 : vl 40 t < vl 40 (meanM (litM ms r.1) (litM ms o))
          · rw [decide_eq_true c1, decide_eq_true c2, decide_eq_true c3, if_pos rfl, if_pos rfl, if_pos rfl]; omega
          · rw [decide_eq_true c1, decide_eq_true c2, decide_eq_false c3, if_neg (by decide : ¬ false = true)]; omega
        · by_cases c3 : vl 40 t < vl 40 (meanM (litM ms r.1) (litM ms o))
          · rw [decide_eq_true c1, decide_eq_false c2, decide_eq_true c3, if_pos rfl, if_pos rfl, if_neg (by decide : ¬ false = true)]; omega
          · omega
      · by_cases c2 : vl 40 (litM ms o) < vl 40 t
        · by_cases c3 : vl 40 t < vl 40 (meanM (litM ms r.1) (litM ms o))
          · rw [decide_eq_false c1, decide_eq_true c2, decide_eq_true c3, if_pos rfl, if_pos rfl, if_neg (by decide : ¬ false = true)]; omega
          · omega
        · have c3 : vl 40 t < vl 40 (meanM (litM ms r.1) (litM ms o)) := by omega
          rw [decide_eq_false c1, decide_eq_false c2, decide_eq_true c3, if_pos rfl, if_neg (by decide : ¬ false = true), if_neg (by decide : ¬ false = true)]; omega
    · rw [if_neg c] at ho; cases ho
end Rope

set_option maxHeartbeats 4000000
namespace L2
open PySem PySem.Spec PyProof.Rows
/-! ### == and != of lists and tuples, one in another -/
def SeqD (R : V → V → Bool → Prop) (xs ys : List V) (b : Bool) : Prop :=
  ∃ e : Nat → Bool, (∀ j x y, xs[j]? = some x → ys[j]? = some y → R x y (e j)) ∧ b = ((List.range (min xs.length ys.length)).all e && xs.length == ys.length)
def RcD (K : PySem.W.Frag) (H : Hp) (R : V → V → Bool → Prop) (x y : V) (b : Bool) : Prop :=
  (∃ p q xs ys, x = .ref p ∧ y = .ref q ∧ SqT K H p xs ∧ SqT K H q ys ∧ SeqD R xs ys b) ∨ (∃ p q xs ys, x = .ref p ∧ y = .ref q ∧ SqL K H p xs ∧ SqL K H q ys ∧ SeqD R xs ys b)
def EqD (K : PySem.W.Frag) (H : Hp) : Nat → V → V → Bool → Prop
  | 0 => fun _ _ _ => False
  | n + 1 => fun x y b => (flatV x = true ∧ flatV y = true ∧ b = eqV x y) ∨ (∃ p, x = .ref p ∧ y = .ref p ∧ b = true) ∨ (∃ p xs, x = .ref p ∧ SqT K H p xs ∧ y = .non ∧ b = false) ∨ RcD K H (EqD K H n) x y b
theorem all_range {n : Nat} {e : Nat → Bool} (h : ∀ j, j < n → e j = true) : (List.range n).all e = true := List.all_eq_true.mpr fun j hj => h j (List.mem_range.mp hj)
section
variable {X : Cx} {pins : List (Addr × Obj)} {s : Shared} {σ : St} {H : Hp}
theorem seqD_refl {R : V → V → Bool → Prop} {xs : List V} {b : Bool} (h : SeqD R xs xs b) (ih : ∀ x b, R x x b → b = true) : b = true := by
  obtain ⟨e, he, rfl⟩ := h
  rw [all_range fun j hj => ?_]
  · simp
  · have hj' : j < xs.length := by omega
    exact ih _ _ (he j xs[j] xs[j] (by simp [hj']) (by simp [hj']))
theorem EqD.refl_true (I : Inv X pins σ H s) : ∀ (n : Nat) (x : V) (b : Bool), EqD X.K H n x x b → b = true
  | 0, _, _, h => h.elim
  | n + 1, x, b, h => by
    rcases h with ⟨f, _, rfl⟩ | ⟨p, _, _, rfl⟩ | ⟨p, xs, rfl, _, e, _⟩ | ⟨p, q, xs, ys, rfl, e, h1, h2, h3⟩ | ⟨p, q, xs, ys, rfl, e, h1, h2, h3⟩
    · exact eqV_refl f
    · rfl
    · cases e
    · cases e
      have := I.tuple_inj h1 h2
      subst this
      exact seqD_refl h3 (EqD.refl_true I n)
    · cases e
      have := I.list_inj h1 h2
      subst this
      exact seqD_refl h3 (EqD.refl_true I n)
theorem seqD_at {A : Around} {R : V → V → Bool → Prop} {xs ys : List V} {its its' : List Value} {e : Nat → Bool} (r : Vals xs its) (r' : Vals ys its') (he : ∀ j x y, xs[j]? = some x → ys[j]? = some y → R x y (e j))
    (ih : ∀ x y b u v, R x y b → RelV x u → RelV y v → SeqAt.EqAt A s u v b) : ∀ j (h1 : j < its.toArray.size) (h2 : j < its'.toArray.size), SeqAt.EqAt A s its.toArray[j] its'.toArray[j] (e j) := by
  intro j h1 h2
  have l1 : j < its.length := by simpa using h1
  have l2 : j < its'.length := by simpa using h2
  have e1 := r.length
  have e2 := r'.length
  have g1 : xs[j]? = some xs[j] := by simp [e1, l1]
  have g2 : ys[j]? = some ys[j] := by simp [e2, l2]
  obtain ⟨u, hu1, ru⟩ := r.get g1
  obtain ⟨v, hv1, rv⟩ := r'.get g2
  have f1 : its.toArray[j] = u := by
    have : its[j]? = some its[j] := by simp [l1]
    rw [this] at hu1
    simpa using Option.some.inj hu1
  have f2 : its'.toArray[j] = v := by
    have : its'[j]? = some its'[j] := by simp [l2]
    rw [this] at hv1
    simpa using Option.some.inj hv1
  rw [f1, f2]
  exact ih _ _ _ _ _ (he j _ _ g1 g2) ru rv
theorem RcD.at {A : Around} {R : V → V → Bool → Prop} {x y : V} {b : Bool} {u v : Value} (I : Inv X pins σ H s) (h : RcD X.K H R x y b) (rx : RelV x u) (ry : RelV y v) (hu : A.units < cLine)
    (ih : ∀ x y b u v, R x y b → RelV x u → RelV y v → SeqAt.EqAt A.in1 s u v b) : SeqAt.RcAt A s u v b ∧ SeqAt.RcNeAt A s u v (!b) := by
  rcases h with ⟨p, q, xs, ys, rfl, rfl, h1, h2, e, he, rfl⟩ | ⟨p, q, xs, ys, rfl, rfl, h1, h2, e, he, rfl⟩
  · cases rx
    cases ry
    obtain ⟨its, r, t, _⟩ := I.tuple h1
    obtain ⟨its', r', t', _⟩ := I.tuple h2
    have z := seqD_at (s := s) (A := A.in1) r r' he ih
    have e1 : its.toArray.size = xs.length := by simp [r.length]
    have e2 : its'.toArray.size = ys.length := by simp [r'.length]
    refine ⟨?_, ?_⟩
    · have := SeqAt.RcAt.tuples t t' hu z
      rw [e1, e2] at this; exact this
    · have := SeqAt.RcNeAt.tuples t t' hu z
      rw [e1, e2] at this; exact this
  · cases rx
    cases ry
    obtain ⟨its, r, t, _⟩ := I.list h1
    obtain ⟨its', r', t', _⟩ := I.list h2
    have z := seqD_at (s := s) (A := A.in1) r r' he ih
    have e1 : its.toArray.size = xs.length := by simp [r.length]
    have e2 : its'.toArray.size = ys.length := by simp [r'.length]
    by_cases hz : xs.length = ys.length
    · have hz' : its.toArray.size = its'.toArray.size := by rw [e1, e2, hz]
      have q1 : ((List.range (min xs.length ys.length)).all e && xs.length == ys.length) = (List.range its.toArray.size).all e := by
        rw [e1, ← hz, Nat.min_self]; simp
      rw [q1]
      exact ⟨SeqAt.RcAt.lists t.isList t'.isList hz' hu z, SeqAt.RcNeAt.lists t.isList t'.isList hz' hu z⟩
    · have hz' : (its.toArray.size != its'.toArray.size) = true := by rw [e1, e2]; simpa using hz
      have q1 : ((List.range (min xs.length ys.length)).all e && xs.length == ys.length) = false := by simp [hz]
      rw [q1]
      exact ⟨SeqAt.RcAt.lists_lengths t.isList t'.isList hz' hu, SeqAt.RcNeAt.lists_lengths t.isList t'.isList hz' hu⟩
theorem EqD.at (I : Inv X pins σ H s) : ∀ (n : Nat) (A : Around) (x y : V) (b : Bool) (u v : Value), EqD X.K H n x y b → RelV x u → RelV y v → A.units + n < cLine → SeqAt.EqAt A s u v b
  | 0, _, _, _, _, _, _, h, _, _, _ => h.elim
  | n + 1, A, x, y, b, u, v, h, rx, ry, hu => by
    rcases h with ⟨fx, fy, rfl⟩ | ⟨p, rfl, rfl, rfl⟩ | ⟨p, xs, rfl, hp, rfl, rfl⟩ | h
    · exact eqAt_V rx ry fx fy
    · cases rx
      cases ry
      exact SeqAt.EqAt.same _
    · cases rx
      cases ry
      obtain ⟨its, r, t, _⟩ := I.tuple hp
      exact SeqAt.EqAt.tuple_none t (by omega)
    · have z := (RcD.at (A := A) I h rx ry (by omega) fun x y b u v h' r1 r2 => EqD.at I n A.in1 x y b u v h' r1 r2 (by show A.units + 1 + n < _; omega)).1
      rcases h with ⟨p, q, xs, ys, rfl, rfl, h1, h2, h3⟩ | ⟨p, q, xs, ys, rfl, rfl, h1, h2, h3⟩
      · cases rx
        cases ry
        by_cases e : p = q
        · subst e
          have := I.tuple_inj h1 h2
          subst this
          rw [seqD_refl h3 (EqD.refl_true I n)]
          exact SeqAt.EqAt.same _
        · exact SeqAt.EqAt.of_refs e z
      · cases rx
        cases ry
        by_cases e : p = q
        · subst e
          have := I.list_inj h1 h2
          subst this
          rw [seqD_refl h3 (EqD.refl_true I n)]
          exact SeqAt.EqAt.same _
        · exact SeqAt.EqAt.of_refs e z
def rEqD (K : PySem.W.Frag) : R2 := fun x y H Q => ∃ b, RcD K H (EqD K H 8) x y b ∧ Q (.bl b) H
def rNeD (K : PySem.W.Frag) : R2 := fun x y H Q => ∃ b, RcD K H (EqD K H 8) x y b ∧ Q (.bl (!b)) H
theorem op_eqD (hu : X.A.units + 64 < cLine) : OpR X (compareOp .Eq) (rEqD X.K) := by
  intro pins s σ H x y v u Q I rx ry h
  obtain ⟨b, hb, k⟩ := h
  exact (RcD.at (A := X.A) I hb rx ry (by omega) fun x y b u v h' r1 r2 => EqD.at I 8 X.A.in1 x y b u v h' r1 r2 (by show X.A.units + 1 + 8 < _; omega)).1 _ _ _ _ ⟨.bl _, H, I, rfl, k⟩
theorem op_neD (hu : X.A.units + 64 < cLine) : OpR X (compareOp .NotEq) (rNeD X.K) := by
  intro pins s σ H x y v u Q I rx ry h
  obtain ⟨b, hb, k⟩ := h
  exact (RcD.at (A := X.A) I hb rx ry (by omega) fun x y b u v h' r1 r2 => EqD.at I 8 X.A.in1 x y b u v h' r1 r2 (by show X.A.units + 1 + 8 < _; omega)).2 _ _ _ _ ⟨.bl _, H, I, rfl, k⟩
/-- x in xs -/
def rInD (K : PySem.W.Frag) (neg : Bool) : R2 := fun x y H Q => ∃ p xs, ∃ eb : V → Bool, y = .ref p ∧ SqL K H p xs ∧ (∀ z ∈ xs, EqD K H 8 z x (eb z)) ∧ Q (.bl (if neg then !xs.any eb else xs.any eb)) H
def onV (eb : V → Bool) (u : Value) : Bool := match absV u with
  | some z => eb z
  | none => false
theorem any_onV {eb : V → Bool} : ∀ {xs : List V} {us : List Value}, Vals xs us → us.any (onV eb) = xs.any eb
  | _, _, .nil => rfl
  | x :: xs, u :: us, .cons r t => by
    rw [List.any_cons, List.any_cons, any_onV t]
    have : onV eb u = eb x := by unfold onV; rw [r.abs]
    rw [this]
theorem mem_onV {A : Around} {x : V} {v : Value} {eb : V → Bool} (ih : ∀ z u, EqD X.K H 8 z x (eb z) → RelV z u → SeqAt.EqAt A s u v (eb z)) : ∀ {xs : List V} {us : List Value}, Vals xs us → (∀ z ∈ xs, EqD X.K H 8 z x (eb z)) → ∀ u ∈ us, SeqAt.EqAt A s u v (onV eb u)
  | _, _, .nil, _ => fun u hu => by cases hu
  | y :: xs, u :: us, .cons r t, f => fun u' hu => by
    rcases List.mem_cons.mp hu with rfl | hu
    · have : onV eb u' = eb y := by unfold onV; rw [r.abs]
      rw [this]; exact ih y u' (f y List.mem_cons_self) r
    · exact mem_onV ih t (fun z hz => f z (List.mem_cons_of_mem _ hz)) u' hu
theorem op_inD (hu : X.A.units + 64 < cLine) : OpR X (compareOp .In) (rInD X.K false) := by
  intro pins s σ H x y v u Q I rx ry h
  obtain ⟨p, xs, eb, rfl, hq, he, q⟩ := h
  cases ry
  obtain ⟨its, r, pl, hz⟩ := I.list hq
  refine SeqAt.in_listAt (onV eb) pl.isList (fun w hw => mem_onV (fun z u hz rz => EqD.at I 8 X.A.in1 z x (eb z) u v hz rz rx (by show X.A.units + 1 + 8 < _; omega)) r he w (by simpa using hw)) ⟨.bl _, H, I, rfl, ?_⟩
  rw [show its.toArray.any (onV eb) = its.any (onV eb) by simp, any_onV r]
  exact q
theorem op_notInD (hu : X.A.units + 64 < cLine) : OpR X (compareOp .NotIn) (rInD X.K true) := by
  intro pins s σ H x y v u Q I rx ry h
  obtain ⟨p, xs, eb, rfl, hq, he, q⟩ := h
  cases ry
  obtain ⟨its, r, pl, hz⟩ := I.list hq
  refine SeqAt.notIn_listAt (onV eb) pl.isList (fun w hw => mem_onV (fun z u hz rz => EqD.at I 8 X.A.in1 z x (eb z) u v hz rz rx (by show X.A.units + 1 + 8 < _; omega)) r he w (by simpa using hw)) ⟨.bl _, H, I, rfl, ?_⟩
  rw [show its.toArray.any (onV eb) = its.any (onV eb) by simp, any_onV r]
  exact q
end
end L2

set_option maxHeartbeats 4000000
namespace L2
open PySem PySem.Spec PyProof.Rows
/-! ### lists of things -/
section
variable {α : Type} {R S : V → α → Prop}
theorem pr_get : ∀ {vs : List V} {xs : List α} {i : Nat} {x : α}, Paired R vs xs → xs[i]? = some x → ∃ v, vs[i]? = some v ∧ R v x
  | _, _, _, _, .nil, e => by simp at e
  | _, _, 0, _, .cons r _, e => by simp at e; subst e; exact ⟨_, rfl, r⟩
  | _, _, i + 1, x, .cons _ t, e => by
    obtain ⟨u, h1, h2⟩ := pr_get (i := i) (x := x) t (by simpa using e)
    exact ⟨u, by simpa using h1, h2⟩
theorem pr_len : ∀ {vs : List V} {xs : List α}, Paired R vs xs → vs.length = xs.length
  | _, _, .nil => rfl
  | _, _, .cons _ t => by simp [pr_len t]
theorem pr_get' {vs : List V} {xs : List α} {i : Nat} {v : V} (h : Paired R vs xs) (e : vs[i]? = some v) : ∃ x, xs[i]? = some x ∧ R v x := by
  have hi : i < vs.length := by
    rcases Nat.lt_or_ge i vs.length with z | z
    · exact z
    · rw [List.getElem?_eq_none z] at e; cases e
  have hi' : i < xs.length := by rw [← pr_len h]; exact hi
  have hx : xs[i]? = some xs[i] := by simp [hi']
  obtain ⟨u, h1, h2⟩ := pr_get h hx
  rw [e] at h1; cases h1
  exact ⟨_, hx, h2⟩
theorem pr_mono (h : ∀ v x, R v x → S v x) : ∀ {vs : List V} {xs : List α}, Paired R vs xs → Paired S vs xs
  | _, _, .nil => .nil
  | _, _, .cons r t => .cons (h _ _ r) (pr_mono h t)
theorem pr_app : ∀ {vs us : List V} {xs ys : List α}, Paired R vs xs → Paired R us ys → Paired R (vs ++ us) (xs ++ ys)
  | _, _, _, _, .nil, q => q
  | _, _, _, _, .cons r t, q => .cons r (pr_app t q)
theorem pr_snoc {vs : List V} {xs : List α} {v : V} {x : α} (h : Paired R vs xs) (r : R v x) : Paired R (vs ++ [v]) (xs ++ [x]) := pr_app h (.cons r .nil)
end
theorem Same.upd {H H' : Hp} {l : Addr} {o : HO} (e : Same H H') (h : H l = none) : Same H (upd H' l o) := fun b u q => by
  rw [upd_ne (ne_of_none q h)]; exact e b u q
/-- a rope of a plan -/
def oV : Option Int → V
  | none => .non
  | some o => .int o
def Ta (K : PySem.W.Frag) (H : Hp) (v : V) (r : Rope.Tau) : Prop := ∃ p, v = .ref p ∧ SqT K H p [.int r.1, oV r.2]
theorem Ta.same {K : PySem.W.Frag} {H H' : Hp} {v : V} {r : Rope.Tau} (e : Same H H') (h : Ta K H v r) : Ta K H' v r := by
  obtain ⟨p, rfl, h⟩ := h
  exact ⟨p, rfl, e.tup h⟩
/-- what holds of things holds however lists change -/
structure Grow (H H' : Hp) : Prop where
  t : ∀ b xs, Rd H b (.tup xs) → Rd H' b (.tup xs)
theorem Grow.refl (H : Hp) : Grow H H := ⟨fun _ _ h => h⟩
theorem Grow.trans {H H1 H2 : Hp} (a : Grow H H1) (b : Grow H1 H2) : Grow H H2 := ⟨fun c xs h => b.t c xs (a.t c xs h)⟩
theorem Same.grow {H H' : Hp} (e : Same H H') : Grow H H' := ⟨fun b xs h => by
  rcases h with h | ⟨o, h⟩
  · exact .inl (e _ _ h)
  · exact .inr ⟨o, e _ _ h⟩⟩
theorem grow_lst {H : Hp} {l : Addr} {xs ys : List V} (h : H l = some (.lst xs)) : Grow H (upd H l (.lst ys)) := ⟨fun b zs q => by
  rcases q with q | ⟨o, q⟩
  · refine .inl ?_
    rw [upd_ne (ne_of q h (by intro z; cases z))]; exact q
  · refine .inr ⟨o, ?_⟩
    rw [upd_ne (ne_of q h (by intro z; cases z))]; exact q⟩
theorem Grow.tup {K : PySem.W.Frag} {H H' : Hp} {a : Addr} {xs : List V} (e : Grow H H') (h : SqT K H a xs) : SqT K H' a xs := by
  rcases h with h | h
  · exact .inl (e.t _ _ h)
  · exact .inr h
theorem Mo.grow {K : PySem.W.Frag} {H H' : Hp} {v : V} {m : Rope.M} (e : Grow H H') (h : Mo K H v m) : Mo K H' v m := by
  obtain ⟨p, rfl, h⟩ := h
  exact ⟨p, rfl, e.tup h⟩
theorem Ta.grow {K : PySem.W.Frag} {H H' : Hp} {v : V} {r : Rope.Tau} (e : Grow H H') (h : Ta K H v r) : Ta K H' v r := by
  obtain ⟨p, rfl, h⟩ := h
  exact ⟨p, rfl, e.tup h⟩
def MoL (K : PySem.W.Frag) (H : Hp) (a : Addr) (ms : List Rope.M) : Prop := ∃ vs, SqL K H a vs ∧ Paired (Mo K H) vs ms
def TaL (K : PySem.W.Frag) (H : Hp) (a : Addr) (rs : List Rope.Tau) : Prop := ∃ vs, SqL K H a vs ∧ Paired (Ta K H) vs rs
theorem MoL.same {K : PySem.W.Frag} {H H' : Hp} {a : Addr} {ms : List Rope.M} (e : Same H H') (h : MoL K H a ms) : MoL K H' a ms := by
  obtain ⟨vs, h1, h2⟩ := h
  exact ⟨vs, e.seq h1, pr_mono (fun _ _ z => z.same e) h2⟩
theorem TaL.same {K : PySem.W.Frag} {H H' : Hp} {a : Addr} {ms : List Rope.Tau} (e : Same H H') (h : TaL K H a ms) : TaL K H' a ms := by
  obtain ⟨vs, h1, h2⟩ := h
  exact ⟨vs, e.seq h1, pr_mono (fun _ _ z => z.same e) h2⟩
/-! ### the same rules where the written part is told apart (inside a comprehension) -/
section
variable {X : Cx} {K : PySem.W.Frag}
theorem ix_listK (h : X.K = K := by rfl) : IxR X (rIxL K) := by subst h; exact ix_list
theorem ix_tupK (h : X.K = K := by rfl) : IxR X (rIxT K) := by subst h; exact ix_tup
theorem pe_ixcK (k : Nat) {a : Expr} {ta : TE} {pos : Pos} {j pos'} (ha : PE X a ta) (h : X.K = K := by rfl) : PE X (.Subscript a (.Constant (.int (k : Nat)) j pos') pos) (tIxc K k ta) := by subst h; exact pe_ixc k ha
theorem call_len_seqK (h : X.K = K := by rfl) : CallR X (.builtin "len") (fun xs H Q => ∃ p ys, xs = [.ref p] ∧ (SqL K H p ys ∨ SqT K H p ys) ∧ Q (.int ys.length) H) := by subst h; exact call_len_seq
theorem call_isiK (h : X.K = K := by rfl) : CallR X (.builtin "isinstance") (fun xs H Q => ∃ x T T' b, xs = [x, .ty T'] ∧ tyName K H x T ∧ PySem.W.kitOne K (.type T) (.type T') = some b ∧ Q (.bl b) H) := by subst h; exact call_isi
theorem pe_xatK {o : Expr} {ta : TE} {f : Str} {pos : Pos} (he : PE X o ta) (hb : attributeBase o f X.env (eval o X.env) = eval o X.env := by rfl) (h : X.K = K := by rfl) : PE X (.Attribute o f pos) (tXat K ta f) := by subst h; exact pe_xat he hb
theorem call_isxK (h : X.K = K := by rfl) : CallR X (.builtin "isinstance") (fun xs H Q => ∃ e C dx fs c cv b, xs = [.ref e, c] ∧ H e = some (YO e C (some dx)) ∧ H dx = some (.xd fs) ∧ XGet K C ∧ RelV c cv ∧ PySem.W.kitOne K (.ref C) cv = some b ∧ Q (.bl b) H) := by subst h; exact call_isx
theorem op_eqDK (hu : X.A.units + 64 < cLine) (h : X.K = K := by rfl) : OpR X (compareOp .Eq) (rEqD K) := by subst h; exact op_eqD hu
theorem op_eqTK (hu : X.A.units < cLine) (h : X.K = K := by rfl) : OpR X (compareOp .Eq) (rEqT K) := by subst h; exact op_eqT hu
end
/-! ### names by a short list -/
theorem look1 {α : Type} {x a : Str} {p c : α} (h : [(a, p)].lookup x = some c) : x = a ∧ c = p := by
  simp only [List.lookup] at h
  split at h
  · rename_i e; exact ⟨beq_iff_eq.mp e, (Option.some.inj h).symm⟩
  · cases h
theorem look_mem {α : Type} {x : Str} {c : α} : ∀ {l : List (Str × α)}, l.lookup x = some c → (x, c) ∈ l
  | [], h => by cases h
  | (a, p) :: l, h => by
    simp only [List.lookup] at h
    split at h
    · rename_i e; cases h; rw [beq_iff_eq.mp e]; exact List.mem_cons_self
    · exact List.mem_cons_of_mem _ (look_mem h)
/-- (0, 1) if number == -1 else found[number] -/
theorem lit_exp {K : PySem.W.Frag} {H : Hp} {σ : St} {i j : Nat} {l : Addr} {us : List V} {ms : List Rope.M} {o : Int} (hi : σ[i]? = some (some (.int o))) (hj : σ[j]? = some (some (.ref l))) (hS : SqL K H l us) (hm : Paired (Mo K H) us ms) (h1 : -1 ≤ o) (h2 : o < ms.length) (Q : VK)
    (h : ∀ v H', Same H H' → Mo K H' v (Rope.litM ms o) → Q v H') : tIf (tTest (tOp rEq (tVar i) (tUn (rU fun i => .int (-i)) (tC (.int 1))))) (tTup (tCons (tC (.int 0)) (tCons (tC (.int 1)) tNil))) (tOp (rIxL K) (tVar j) (tVar i)) σ H Q := by
  refine ⟨_, hi, _, rfl, rfl, _, rfl, ite2 (fun z => ⟨by show 2 ≤ sizeLine; decide, fun q0 hq0 => ?_⟩) (fun z => ?_)⟩
  · have h0 : o = -1 := by have := of_decide_eq_true z; injection this
    subst h0
    refine h _ _ (same_upd hq0) ⟨q0, rfl, SqT.of ?_⟩
    rw [upd_same]; rfl
  · have h0 : o ≠ -1 := fun y => z (by rw [y]; exact decide_eq_true rfl)
    obtain ⟨n, rfl⟩ : ∃ n : Nat, o = n := ⟨o.toNat, by omega⟩
    have hn : n < ms.length := by omega
    have hx : ms[n]? = some ms[n] := by simp [hn]
    obtain ⟨u, hu, hmu⟩ := pr_get hm hx
    refine ⟨_, hj, _, hi, l, us, _, u, rfl, rfl, hS, atI_nat hu, h u H (Same.refl H) ?_⟩
    have : Rope.litM ms (n : Int) = ms[n] := by
      unfold Rope.litM
      rw [if_neg h0, Int.toNat_natCast, List.getD_eq_getElem?_getD, hx]; rfl
    rw [this]; exact hmu
theorem take_snoc {α : Type} {xs : List α} {i : Nat} {x : α} (h : xs[i]? = some x) : xs.take (i + 1) = xs.take i ++ [x] := by
  obtain ⟨hi, e⟩ := List.getElem?_eq_some_iff.mp h
  rw [List.take_succ, h]; rfl
theorem tau_mono {i k : Nat} {r : Rope.Tau} (h : Rope.TauOk i r) (e : i ≤ k) : Rope.TauOk k r := ⟨h.1, by have := h.2.1; omega, fun o ho => ⟨(h.2.2 o ho).1, by have := (h.2.2 o ho).2; omega⟩⟩
/-! ### moments or None -/
def OM (K : PySem.W.Frag) (H : Hp) (v : V) : Option Rope.M → Prop
  | none => v = .non
  | some m => Mo K H v m
theorem OM.same {K : PySem.W.Frag} {H H' : Hp} {v : V} {g : Option Rope.M} (e : Same H H') (h : OM K H v g) : OM K H' v g := by
  cases g with
  | none => exact h
  | some m => exact Mo.same e h
theorem OM.grow {K : PySem.W.Frag} {H H' : Hp} {v : V} {g : Option Rope.M} (e : Grow H H') (h : OM K H v g) : OM K H' v g := by
  cases g with
  | none => exact h
  | some m => exact Mo.grow e h
theorem OM.isN {K : PySem.W.Frag} {H : Hp} {v : V} {g : Option Rope.M} (h : OM K H v g) : decide (v = .non) = g.isNone := by
  cases g with
  | none => cases h; rfl
  | some m => obtain ⟨p, rfl, _⟩ := h; rfl
def OML (K : PySem.W.Frag) (H : Hp) (a : Addr) (gs : List (Option Rope.M)) : Prop := ∃ vs, SqL K H a vs ∧ Paired (OM K H) vs gs
theorem OML.same {K : PySem.W.Frag} {H H' : Hp} {a : Addr} {gs : List (Option Rope.M)} (e : Same H H') (h : OML K H a gs) : OML K H' a gs := by
  obtain ⟨vs, h1, h2⟩ := h
  exact ⟨vs, e.seq h1, pr_mono (fun _ _ z => z.same e) h2⟩
theorem pr_set {α : Type} {R : V → α → Prop} {v : V} {x : α} (r : R v x) : ∀ {vs : List V} {xs : List α} (k : Nat), Paired R vs xs → Paired R (vs.set k v) (xs.set k x)
  | _, _, _, .nil => .nil
  | _, _, 0, .cons _ t => .cons r t
  | _, _, k + 1, .cons q t => .cons q (pr_set r k t)
theorem set_mid {α β : Type} {f g : α → β} {xs : List α} {k : Nat} {x : α} (h : xs[k]? = some x) : ((xs.take k).map f ++ (xs.drop k).map g).set k (f x) = (xs.take (k + 1)).map f ++ (xs.drop (k + 1)).map g := by
  obtain ⟨hk, e⟩ := List.getElem?_eq_some_iff.mp h
  have hl : ((xs.take k).map f).length = k := by simp; omega
  have e1 : xs.drop k = x :: xs.drop (k + 1) := by rw [List.drop_eq_getElem_cons hk, e]
  have e2 : xs.take (k + 1) = xs.take k ++ [x] := take_snoc h
  rw [List.set_append_right _ _ (by omega), hl, Nat.sub_self, e1, e2, List.map_cons, List.set_cons_zero, List.map_append, List.append_assoc]; rfl
theorem mid_get {α β : Type} {f g : α → β} {xs : List α} {k : Nat} {x : α} (h : xs[k]? = some x) : ((xs.take k).map f ++ (xs.drop k).map g)[k]? = some (g x) := by
  obtain ⟨hk, e⟩ := List.getElem?_eq_some_iff.mp h
  have hl : ((xs.take k).map f).length = k := by simp; omega
  rw [List.getElem?_append_right (by omega), hl, Nat.sub_self, List.drop_eq_getElem_cons hk, e]; rfl
/-- all but the object at a is as it was -/
def But (a : Addr) (H H' : Hp) : Prop := ∀ b o, b ≠ a → H b = some o → H' b = some o
theorem But.refl (a : Addr) (H : Hp) : But a H H := fun _ _ _ h => h
theorem But.trans {a : Addr} {H H1 H2 : Hp} (x : But a H H1) (y : But a H1 H2) : But a H H2 := fun b o n h => y b o n (x b o n h)
theorem Same.but {a : Addr} {H H' : Hp} (e : Same H H') : But a H H' := fun b o _ h => e b o h
theorem but_upd {a : Addr} {H : Hp} {o : HO} : But a H (upd H a o) := fun b u n h => by rw [upd_ne n]; exact h
theorem But.seq {K : PySem.W.Frag} {a b : Addr} {H H' : Hp} {xs : List V} (e : But a H H') (n : b ≠ a) (h : SqL K H b xs) : SqL K H' b xs := by
  rcases h with (h | ⟨o, h⟩) | h
  · exact .inl (.inl (e _ _ n h))
  · exact .inl (.inr ⟨o, e _ _ n h⟩)
  · exact .inr h
theorem But.grow {a : Addr} {H H' : Hp} {xs : List V} (e : But a H H') (h : H a = some (.lst xs)) : Grow H H' := ⟨fun b ys q => by
  rcases q with q | ⟨o, q⟩
  · exact .inl (e _ _ (ne_of q h (by intro z; cases z)) q)
  · exact .inr ⟨o, e _ _ (ne_of q h (by intro z; cases z)) q⟩⟩
theorem But.same {a : Addr} {H0 H H' : Hp} (e : But a H H') (s : Same H0 H) (h : H0 a = none) : Same H0 H' := fun b o q => e b o (ne_of_none q h) (s b o q)
end L2

set_option maxHeartbeats 4000000
namespace PySem
section
variable {prog : Program} {w : World} {K : Type} [DecidableEq K] {knd : HeapKind prog w K} {A : Around} {E : Value → Shared → Prop} {s : Shared}
theorem wpAny_dictSetDefault_heap {d a : Addr} {xs : List (K × Addr × Value)} {k : K} {v : Value} {Q : Value → Shared → Prop} (hu : knd.room A) (hkey : knd.is s.heap k a) (hm : s.heap.DictOfH knd d xs)
    (hthere : ∀ p, atKey xs k = some p → Q p.2 { s with toks := s.toks + knd.draws k })
    (hnew : atKey xs k = none → ∀ h', h'.DictOfH knd d (xs ++ [(k, a, v)]) → Heap.SameBut d s.heap h' → Q v { s with heap := h', toks := s.toks + knd.draws k })
    (hsz : xs.length ≤ sizeLine) : wpAny (model prog w) A (dictSetDefault d (.ref a) v) Q E s := by
  obtain ⟨o, es, ep, ho, hc, hd, he, his, hn⟩ := hm
  unfold dictSetDefault
  try with_reducible refine wpAny_holding ?_
  refine wpAny_bind (knd.pyHash hu hkey (wpAny_bind (wpAny_dictFind_heap (s := { s with toks := s.toks + knd.draws k }) hu hkey ho hd he his hn ?_ ?_)))
  · intro hno
    have hnot : k ∉ xs.map (·.1) := not_mem_keys_of_get hno
    refine wpAny_bind (wpAny_rule (wpAny_bind (wpAny_updateDictKeys (hz := by have e := size_of_entries he; omega) (s := { s with toks := s.toks + knd.draws k }) ho hd (wpAny_pure (hnew (atKey_none_of_get hno) _ ⟨_, _, ep + 1, Heap.get?_update_self _ ho (Obj.isFreed_of_dict (Obj.data_mapDictKeys hd _)),
      hc.mapDictKeys _, Obj.data_mapDictKeys hd _, ?_, ?_, ?_⟩ (Heap.SameBut.update ..))))))
    · simp [he, entryOfKey]
    · intro x hx
      rcases List.mem_append.mp hx with hx | hx
      · exact knd.keeps (his x hx) ho hd (Heap.SameBut.update ..)
      · simp only [List.mem_singleton] at hx
        subst hx
        exact knd.keeps hkey ho hd (Heap.SameBut.update ..)
    · rw [List.map_append, List.nodup_append]
      refine ⟨hn, by simp, ?_⟩
      intro x hx y hy
      simp only [List.map_cons, List.map_nil, List.mem_singleton] at hy
      subst hy
      exact fun e => hnot (e ▸ hx)
  · intro j p hj
    refine wpAny_bind (wpAny_dictEntries (s := { s with toks := s.toks + knd.draws k }) ho hd ?_)
    rw [entry_at he j, hj]
    exact wpAny_bind (wpAny_rule (wpAny_pure (hthere p (atKey_of_get hn hj))))
end
end PySem
namespace L2
open PySem PySem.Spec PyProof.Rows
/-! ### a dict whose keys are things of the heap -/
section
variable {κ : Type} [DecidableEq κ]
abbrev Ent (κ : Type) := κ × Addr × V
def EntR (e : Ent κ) (x : κ × Addr × Value) : Prop := x.1 = e.1 ∧ x.2.1 = e.2.1 ∧ RelV e.2.2 x.2.2
def DOk {P : Program} {w : World} (knd : HeapKind P w κ) (a : Addr) (es : List (Ent κ)) : Heap → Prop := fun h => (a == sysModules) = false ∧ es.length ≤ sizeLine ∧ (es.map (·.1)).Nodup ∧
  ∃ (o : Obj) (ees : Array DictEntry) (ep : Nat) (xs : List (κ × Addr × Value)), h.get? a = some o ∧ o.ExactDict ∧ o.data = .dict ees ep ∧ ees.toList = xs.map (entryOfKey knd) ∧ Paired EntR es xs
abbrev DO {P : Program} {w : World} (knd : HeapKind P w κ) (a : Addr) (es : List (Ent κ)) : HO := .ext (DOk knd a es)
theorem DOk.stable {P : Program} {w : World} {knd : HeapKind P w κ} {a : Addr} {es : List (Ent κ)} : ∀ h1 h2 : Heap, DOk knd a es h1 → (∀ o, h1.get? a = some o → h2.get? a = some o) → DOk knd a es h2 :=
  fun h1 h2 ⟨x1, x2, x3, o, ees, ep, xs, q, r⟩ k => ⟨x1, x2, x3, o, ees, ep, xs, k _ q, r⟩
theorem DOk.ok {P : Program} {w : World} {H : Hp} {h : Heap} {knd : HeapKind P w κ} {a : Addr} {es : List (Ent κ)} (x : DOk knd a es h) : ObjOk P w H h a (DO knd a es) := ⟨x, (by obtain ⟨_, _, _, o, _, _, _, q, _⟩ := x; exact ⟨o, q⟩), DOk.stable⟩
def dget (es : List (Ent κ)) (k : κ) : Option V := (es.find? fun e => decide (e.1 = k)).map (·.2.2)
theorem ent_keys : ∀ {es : List (Ent κ)} {xs : List (κ × Addr × Value)}, Paired EntR es xs → xs.map (·.1) = es.map (·.1)
  | _, _, .nil => rfl
  | _, _, .cons r t => by rw [List.map_cons, List.map_cons, ent_keys t, r.1]
theorem ent_len : ∀ {es : List (Ent κ)} {xs : List (κ × Addr × Value)}, Paired EntR es xs → es.length = xs.length
  | _, _, .nil => rfl
  | _, _, .cons _ t => by simp [ent_len t]
theorem ent_is {R : κ → Addr → Prop} : ∀ {es : List (Ent κ)} {xs : List (κ × Addr × Value)}, Paired EntR es xs → (∀ e ∈ es, R e.1 e.2.1) → ∀ x ∈ xs, R x.1 x.2.1
  | _, _, .nil, _ => fun x hx => by cases hx
  | _, _, .cons r t, h => fun x hx => by
    rcases List.mem_cons.mp hx with rfl | hx
    · rw [r.1, r.2.1]; exact h _ List.mem_cons_self
    · exact ent_is t (fun e he => h e (List.mem_cons_of_mem _ he)) x hx
theorem ent_get : ∀ {es : List (Ent κ)} {xs : List (κ × Addr × Value)} (k : κ), Paired EntR es xs → RelO (dget es k) ((atKey xs k).map (·.2))
  | _, _, _, .nil => True.intro
  | e :: es, x :: xs, k, .cons r t => by
    have ih := ent_get (es := es) (xs := xs) k t
    unfold dget atKey at ih ⊢
    rw [List.find?_cons, List.find?_cons, r.1]
    by_cases z : e.1 = k
    · rw [decide_eq_true z]; exact r.2.2
    · rw [decide_eq_false z]; exact ih
theorem ent_app {e : Ent κ} {x : κ × Addr × Value} (r : EntR e x) : ∀ {es : List (Ent κ)} {xs : List (κ × Addr × Value)}, Paired EntR es xs → Paired EntR (es ++ [e]) (xs ++ [x])
  | _, _, .nil => .cons r .nil
  | _, _, .cons q t => .cons q (ent_app r t)
end
section
variable {X : Cx} {κ : Type} [DecidableEq κ] {knd : HeapKind X.prog X.w κ} {pins : List (Addr × Obj)} {σ : St} {H : Hp} {s : Shared} {d p : Addr} {es : List (Ent κ)} {k : κ}
theorem Inv.bigD (I : Inv X pins σ H s) : sysModules < s.heap.objs.size := by
  have h : mainGlobals < s.heap.objs.size := (I.mod.glob.keeps I.bk).lt
  exact Nat.lt_trans (by decide) h
theorem Inv.dictH (I : Inv X pins σ H s) (h : H d = some (DO knd d es)) (hk : ∀ e ∈ es, knd.is s.heap e.1 e.2.1) : (d == sysModules) = false ∧ es.length ≤ sizeLine ∧ ∃ xs, s.heap.DictOfH knd d xs ∧ Paired EntR es xs := by
  obtain ⟨⟨h1, h2, h3, o, ees, ep, xs, q1, q2, q3, q4, q5⟩, _, _⟩ := I.hok d _ h
  exact ⟨h1, h2, xs, ⟨o, ees, ep, q1, q2, q3, q4, ent_is (R := fun k a => knd.is s.heap k a) q5 hk, by rw [ent_keys q5]; exact h3⟩, q5⟩
/-- {} -/
def tDNew (knd : HeapKind X.prog X.w κ) : TE := fun _ H Q => ∀ d, H d = none → Q (.ref d) (upd H d (DO knd d []))
theorem pe_dnew (knd : HeapKind X.prog X.w κ) {pos : Pos} : PE X (.Dict [] [] pos) (tDNew knd) := fun pins s σ H Q I h =>
  wpAny_Dict_empty ⟨.ref s.heap.objs.size, _, I.laid (a := s.heap.objs.size) (o := DO knd s.heap.objs.size []) (t' := s.toks) (fun _ _ q => Heap.get?_push_of_some _ q) (Nat.le_refl _)
    (DOk.ok ⟨by rw [beq_eq_false_iff_ne]; exact Nat.ne_of_gt I.bigD, Nat.zero_le _, List.nodup_nil, _, #[], 0, [], Heap.get?_push_size _ rfl, ⟨rfl, rfl, rfl⟩, rfl, rfl, .nil⟩), rfl, h _ (I.hok.fresh (Nat.le_refl _))⟩
/-- the things that are keys -/
structure KeyF (X : Cx) (knd : HeapKind X.prog X.w κ) (isK : Hp → κ → Addr → Prop) : Prop where
  snd : ∀ (pins : List (Addr × Obj)) (σ : St) (H : Hp) (s : Shared) (k : κ) (p : Addr), Inv X pins σ H s → isK H k p → knd.is s.heap k p
  room : knd.room X.A.in1
def rSetDef (knd : HeapKind X.prog X.w κ) (isK : Hp → κ → Addr → Prop) : V → List V → Hp → VK → Prop := fun x vs H Q => ∃ d p v k es, x = .ref d ∧ vs = [.ref p, v] ∧ H d = some (DO knd d es) ∧ isK H k p ∧ (∀ e ∈ es, isK H e.1 e.2.1) ∧ es.length < sizeLine ∧
  (∀ u, dget es k = some u → Q u H) ∧ (dget es k = none → Q v (upd H d (DO knd d (es ++ [(k, p, v)]))))
theorem mt_setdefault {isK : Hp → κ → Addr → Prop} (F : KeyF X knd isK) : MtM X "dict.setdefault" (rSetDef knd isK) := by
  intro pins s σ H x vs u us Q I rx rv h
  obtain ⟨d, p, v, k, es, rfl, rfl, hd, hk, hks, hl, h1, h2⟩ := h
  cases rx
  obtain ⟨u1, u2, rfl, r1, r2⟩ := rv.two
  cases r1
  obtain ⟨hs, hz, xs, D, pr⟩ := I.dictH hd fun e he => F.snd pins σ H s _ _ I (hks e he)
  refine wpAny_call_entry PySem.F.slot_dict_setdefault D.typeIs PySem.F.entry_dict_setdefault ?_ (PySem.F.args_dict_setdefault_3 _ _ _)
  unfold Builtin.«dict.setdefault»
  refine wpAny_bind ?_
  unfold Builtin.Dict.keyAndDefault
  refine wpAny_bind (wpAny_notOrdered_dict D.typeIs ?_)
  show wpAny _ _ (pure (d, Value.ref p, some u2)) _ _ s
  refine wpAny_pure ?_
  show wpAny _ _ (if (d == sysModules) = true then _ else (dictSetDefault d (.ref p) u2 >>= _)) _ _ s
  rw [if_neg (by rw [hs]; exact Bool.false_ne_true)]
  have eg := ent_get k pr
  refine wpAny_bind (wpAny_dictSetDefault_heap F.room (F.snd pins σ H s k p I hk) D (fun q hq => ?_) (fun hn h' D' hsb => ?_) (by rw [← ent_len pr]; exact hz))
  · rw [hq] at eg
    cases ev : dget es k with
    | none => rw [ev] at eg; exact eg.elim
    | some y =>
      rw [ev] at eg
      exact wpAny_pure ⟨_, rfl, ⟨y, H, I.tok _, eg, h1 y ev⟩⟩
  · rw [hn] at eg
    have ev : dget es k = none := by
      cases ev : dget es k with
      | none => rfl
      | some y => rw [ev] at eg; exact eg.elim
    obtain ⟨o, ees, ep, q1, q2, q3, q4, q5, q6⟩ := D'
    refine wpAny_pure ⟨_, rfl, ⟨v, _, I.write (x := d) (e := d) (o := DO knd d (es ++ [(k, p, v)])) (by rw [hd]; exact True.intro) (.inl rfl) (fun b o hb z => (hsb.2 b hb).trans z) ⟨_, q1⟩ (DOk.ok ⟨hs, by rw [List.length_append, List.length_singleton]; exact hl, ?_, o, ees, ep, _, q1, q2, q3, q4, ent_app ⟨rfl, rfl, r2⟩ pr⟩), r2, h2 ev⟩⟩
    rw [← ent_keys (ent_app (e := (k, p, v)) (x := (k, p, u2)) ⟨rfl, rfl, r2⟩ pr)]
    exact q6
/-- d[key], there -/
def rDItem (knd : HeapKind X.prog X.w κ) (isK : Hp → κ → Addr → Prop) : R2 := fun x y H Q => ∃ d p k es u, x = .ref d ∧ y = .ref p ∧ H d = some (DO knd d es) ∧ isK H k p ∧ (∀ e ∈ es, isK H e.1 e.2.1) ∧ dget es k = some u ∧ Q u H
/-- d.get(key) -/
def rDGet (knd : HeapKind X.prog X.w κ) (isK : Hp → κ → Addr → Prop) : V → List V → Hp → VK → Prop := fun x vs H Q => ∃ d p k es, x = .ref d ∧ vs = [.ref p] ∧ H d = some (DO knd d es) ∧ isK H k p ∧ (∀ e ∈ es, isK H e.1 e.2.1) ∧ Q ((dget es k).getD .non) H
theorem mt_dget {isK : Hp → κ → Addr → Prop} (F : KeyF X knd isK) : MtM X "dict.get" (rDGet knd isK) := by
  intro pins s σ H x vs u us Q I rx rv h
  obtain ⟨d, p, k, es, rfl, rfl, hd, hk, hks, q⟩ := h
  cases rx
  obtain ⟨u1, rfl, r1⟩ := rv.one
  cases r1
  obtain ⟨hs, hz, xs, D, pr⟩ := I.dictH hd fun e he => F.snd pins σ H s _ _ I (hks e he)
  have eg := ent_get k pr
  refine call_meetsIn PySem.F.slot_dict_get D.typeIs PySem.F.entry_dict_get (PySem.F.args_dict_get_2 _ _) (meetsH_dict_get knd d p hs) ⟨F.room, k, xs, F.snd pins σ H s k p I hk, D, ?_⟩
  cases ev : dget es k with
  | none =>
    rw [ev] at eg q
    cases ea : (atKey xs k).map (·.2) with
    | none => exact ⟨.non, H, I.tok _, rfl, q⟩
    | some z => rw [ea] at eg; exact eg.elim
  | some y =>
    rw [ev] at eg q
    cases ea : (atKey xs k).map (·.2) with
    | none => rw [ea] at eg; exact eg.elim
    | some z => rw [ea] at eg; exact ⟨y, H, I.tok _, eg, q⟩
end
end L2

set_option maxHeartbeats 4000000
namespace PySem
/-! ### a dict's entries, whatever its keys are: walked by list(d), list(d.values()) -/
def DRaw (h : Heap) (d : Addr) (es : Array DictEntry) (ep : Nat) : Prop := ∃ o, h.get? d = some o ∧ o.ExactDict ∧ o.data = .dict es ep
section
variable {prog : Program} {w : World} {A : Around} {E : Value → Shared → Prop} {s : Shared} {d it v : Addr} {es : Array DictEntry} {ep i : Nat}
theorem DRaw.at' {h h' : Heap} (x : DRaw h d es ep) (e : ∀ o, h.get? d = some o → h'.get? d = some o) : DRaw h' d es ep := let ⟨o, ho, r⟩ := x; ⟨o, e o ho, r⟩
theorem DRaw.lt {h : Heap} (x : DRaw h d es ep) : d < h.objs.size := let ⟨_, ho, _⟩ := x; Heap.lt_size ho
theorem DRaw.typeIs (x : DRaw s.heap d es ep) : s.TypeIs (.ref d) "dict" := let ⟨o, ho, hc, _⟩ := x; ⟨o, ho, hc.1⟩
theorem raw_iter {Q : Value → Shared → Prop} (hd : (d == sysModules) = false) (hm : DRaw s.heap d es ep)
    (hQ : Q (.ref s.heap.objs.size) { s with heap := s.heap.push { cls := .type "dict_keyiterator", data := .fields #[.ref d, .int 0 0, .int es.size 0, .int ep 0] } }) : wpAny (model prog w) A (pyIter (.ref d)) Q E s := by
  have hT := hm.typeIs
  obtain ⟨o, ho, hc, hdat⟩ := hm
  refine wpAny_pyIter_slot hT F.slot_dict_iter (wpAny_call_entry F.slot_dict_iter hT F.entry_dict_iter ?_ (F.args_dict_iter_1 _))
  unfold Builtin.«dict.__iter__»
  refine wpAny_bind ?_
  unfold Builtin.Dict.dictSlotNone
  refine wpAny_bind (wpAny_notOrdered_dict hT ?_)
  show wpAny _ _ (pure (Value.ref d)) _ _ s
  refine wpAny_pure ?_
  show wpAny _ _ (Builtin.Dict.showsAll d >>= _) _ _ s
  unfold Builtin.Dict.showsAll
  rw [if_neg (by rw [hd]; exact Bool.false_ne_true)]
  refine wpAny_bind (wpAny_pure ?_)
  refine wpAny_bind (wpAny_dictEntries ho hdat ?_)
  refine wpAny_bind (wpAny_dictEpoch ho hdat ?_)
  refine wpAny_bind (wpAny_newObj_type (wpAny_pure ⟨_, rfl, "dict_keyiterator", _, ⟨_, Heap.get?_push_size _ rfl, rfl⟩, F.slot_dict_keyiterator_next.lookup, ?_⟩))
  simpa [rawInt] using hQ
theorem raw_iter_values {Q : Value → Shared → Prop} (hv : s.heap.IsValuesView v d) (hm : DRaw s.heap d es ep)
    (hQ : Q (.ref s.heap.objs.size) { s with heap := s.heap.push { cls := .type "dict_valueiterator", data := .fields #[.ref d, .int 0 0, .int es.size 0, .int ep 0] } }) :
    wpAny (model prog w) A (pyIter (.ref v)) Q E s := by
  obtain ⟨ov, hov, hcv, hdv⟩ := id hv
  obtain ⟨o, ho, hc, hdat⟩ := hm
  refine wpAny_pyIter_slot hv.typeIs F.slot_dict_values_iter (wpAny_call_entry F.slot_dict_values_iter hv.typeIs F.entry_dict_values_iter ?_ (F.args_dict_values_iter_1 _))
  unfold Builtin.«dict_values.__iter__»
  refine wpAny_bind (wpAny_pure ?_)
  refine wpAny_bind ?_
  unfold Builtin.Dict_items.dictOf
  refine wpAny_bind (wpAny_field hov hdv (x := .ref d) rfl (wpAny_pure ?_))
  refine wpAny_bind ?_
  unfold Builtin.Dict_items.newIterator
  refine wpAny_bind (wpAny_dictEntries ho hdat ?_)
  refine wpAny_bind (wpAny_dictEpoch ho hdat ?_)
  have hown : Builtin.Dict_items.ownsTuple "dict_valueiterator" = false := by decide
  simp only [hown, Bool.false_eq_true, if_false]
  refine wpAny_newObj_type (wpAny_pure ⟨_, rfl, "dict_valueiterator", _, ⟨_, Heap.get?_push_size _ rfl, rfl⟩, F.slot_dict_valueiterator_next.lookup, ?_⟩)
  simpa [rawInt] using hQ
theorem raw_next {Q : Option Value → Shared → Prop} (hit : s.heap.IsKeyIter it d i es.size ep) (hm : DRaw s.heap d es ep) (hi : i < es.size)
    (hQ : ∀ h', h'.IsKeyIter it d (i + 1) es.size ep → Heap.SameBut it s.heap h' → Q (some es[i].key) { s with heap := h' }) : wpAny (model prog w) A (pyNext (.ref it)) Q E s := by
  obtain ⟨o, ho, hc, hd⟩ := id hit
  obtain ⟨od, hod, hcd, hdd⟩ := hm
  unfold pyNext
  refine wpAny_bind (wpAny_attempt (wpAny_callSpecial?_slot (name := Str.ofString "__next__") hit.typeIs F.slot_dict_keyiterator_next
    (wpAny_call_entry F.slot_dict_keyiterator_next hit.typeIs F.entry_dict_keyiterator_next ?_ (F.args_dict_keyiterator_next_1 _))))
  refine wpAny_bind (wpAny_pure ?_)
  refine wpAny_bind ?_
  refine wpAny_bind ?_
  first | refine wpAny_bind (wpAny_typeNameOfWhole_keyiter hit.typeIs (wpAny_pure ?_)) | refine wpAny_bind (wpAny_typeNameOf_keyiter hit.typeIs (wpAny_pure ?_))
  refine wpAny_bind (wpAny_fieldsOf ho hd ?_)
  have hown : Builtin.Dict_items.ownsTuple "dict_keyiterator" = false := by decide
  simp only [hown, Bool.false_eq_true, if_false]
  show wpAny _ _ (if (Value.ref d == Value.none) = true then _ else _) _ _ s
  rw [if_neg (show ¬ ((Value.ref d == Value.none) = true) from Bool.false_ne_true)]
  refine wpAny_bind (wpAny_pure ?_)
  refine wpAny_bind (wpAny_dictEntries hod hdd ?_)
  rw [if_neg (by simp)]
  refine wpAny_bind (wpAny_pure ?_)
  refine wpAny_bind (wpAny_dictEpoch hod hdd ?_)
  rw [if_neg (by simp)]
  refine wpAny_pure ?_
  simp only [show ¬ ((i : Int) < 0) from by omega, if_false, Int.toNat_natCast, Array.getElem?_eq_getElem hi]
  refine wpAny_bind ?_
  first | refine wpAny_bind (wpAny_typeNameOfWhole_keyiter hit.typeIs (wpAny_pure ?_)) | refine wpAny_bind (wpAny_typeNameOf_keyiter hit.typeIs (wpAny_pure ?_))
  refine wpAny_bind (wpAny_isOneOf_keyiter hit.typeIs ?_)
  show wpAny _ _ (setField (.ref it) 1 (rawInt ((i : Int) + 1)) >>= _) _ _ s
  refine wpAny_bind (wpAny_setField ho hd (by simp) ?_)
  have hit' : (s.heap.update it (Obj.mapFields (·.setIfInBounds 1 (rawInt ((i : Int) + 1))))).IsKeyIter it d (i + 1) es.size ep :=
    ⟨_, Heap.get?_update_self _ ho (Obj.isFreed_of_fields (Obj.data_mapFields hd _)), (Obj.cls_mapFields ..).trans hc, by rw [Obj.data_mapFields hd]; simp [rawInt]⟩
  refine wpAny_bind (wpAny_holding ?_)
  refine wpAny_bind (wpAny_isOneOf_keyiter (s := { s with heap := s.heap.update it (Obj.mapFields (·.setIfInBounds 1 (rawInt ((i : Int) + 1)))) }) hit'.typeIs ?_)
  show wpAny _ _ (pure es[i].key) _ _ _
  exact wpAny_pure (wpAny_pure ⟨_, rfl, wpAny_pure (hQ _ hit' (Heap.SameBut.update ..))⟩)
theorem raw_done {Q : Option Value → Shared → Prop} (hh : A.handled = none) (hit : s.heap.IsKeyIter it d es.size es.size ep) (hm : DRaw s.heap d es ep)
    (hQ : ∀ h', Heap.ExtBut it s.heap h' → Q none { s with heap := h' }) : wpAny (model prog w) A (pyNext (.ref it)) Q E s := by
  obtain ⟨o, ho, hc, hd⟩ := id hit
  obtain ⟨od, hod, hcd, hdd⟩ := hm
  unfold pyNext
  refine wpAny_bind (wpAny_attempt (wpAny_callSpecial?_slot (name := Str.ofString "__next__") hit.typeIs F.slot_dict_keyiterator_next
    (wpAny_call_entry F.slot_dict_keyiterator_next hit.typeIs F.entry_dict_keyiterator_next ?_ (F.args_dict_keyiterator_next_1 _))))
  refine wpAny_bind (wpAny_pure ?_)
  refine wpAny_bind ?_
  refine wpAny_bind ?_
  first | refine wpAny_bind (wpAny_typeNameOfWhole_keyiter hit.typeIs (wpAny_pure ?_)) | refine wpAny_bind (wpAny_typeNameOf_keyiter hit.typeIs (wpAny_pure ?_))
  refine wpAny_bind (wpAny_fieldsOf ho hd ?_)
  have hown : Builtin.Dict_items.ownsTuple "dict_keyiterator" = false := by decide
  simp only [hown, Bool.false_eq_true, if_false]
  show wpAny _ _ (if (Value.ref d == Value.none) = true then _ else _) _ _ s
  rw [if_neg (show ¬ ((Value.ref d == Value.none) = true) from Bool.false_ne_true)]
  refine wpAny_bind (wpAny_pure ?_)
  refine wpAny_bind (wpAny_dictEntries hod hdd ?_)
  rw [if_neg (by simp)]
  refine wpAny_bind (wpAny_pure ?_)
  refine wpAny_bind (wpAny_dictEpoch hod hdd ?_)
  rw [if_neg (by simp)]
  refine wpAny_pure ?_
  simp only [show ¬ ((es.size : Int) < 0) from by omega, if_false, Int.toNat_natCast, Array.getElem?_eq_none (Nat.le_refl es.size)]
  refine wpAny_bind ?_
  first | refine wpAny_bind (wpAny_typeNameOfWhole_keyiter hit.typeIs (wpAny_pure ?_)) | refine wpAny_bind (wpAny_typeNameOf_keyiter hit.typeIs (wpAny_pure ?_))
  show wpAny _ _ (setField (.ref it) 0 .none >>= _) _ _ s
  refine wpAny_bind (wpAny_setField ho hd (by simp) ?_)
  show wpAny _ _ (newExc (.type "StopIteration") [] >>= _) _ _ _
  refine wpAny_bind ?_
  simp only [newExc, newTuple]
  refine wpAny_bind (wpAny_newObj_type ?_ (by size_fits))
  refine wpAny_bind (m := firstArgMember _ _) (wpAny_of_eq (a := Value.none) (by first | rfl | (simp only [firstArgMember]; rfl)) ?_)
  refine wpAny_newObj_type ?_ (by size_fits)
  simp only [raiseNew]
  refine wpAny_bind (wpAny_handled ?_)
  rw [show A.in1.handled = none from hh]
  refine wpAny_bind (wpAny_pure (wpAny_throw ?_))
  refine wpAny_bind (wpAny_isInstance (T := "StopIteration") (b := true) ⟨_, Heap.get?_push_size _ rfl, rfl⟩ isSubtype_stop ?_)
  exact wpAny_pure (hQ _ (((Heap.SameBut.update ..).extBut.push _).push _))
theorem raw_next_values {Q : Option Value → Shared → Prop} (hit : s.heap.IsValIter it d i es.size ep) (hm : DRaw s.heap d es ep) (hi : i < es.size)
    (hQ : ∀ h', h'.IsValIter it d (i + 1) es.size ep → Heap.SameBut it s.heap h' → Q (some es[i].val) { s with heap := h' }) : wpAny (model prog w) A (pyNext (.ref it)) Q E s := by
  obtain ⟨o, ho, hc, hd⟩ := id hit
  obtain ⟨od, hod, hcd, hdd⟩ := hm
  unfold pyNext
  refine wpAny_bind (wpAny_attempt (wpAny_callSpecial?_slot (name := Str.ofString "__next__") hit.typeIs F.slot_dict_valueiterator_next
    (wpAny_call_entry F.slot_dict_valueiterator_next hit.typeIs F.entry_dict_valueiterator_next ?_ (F.args_dict_valueiterator_next_1 _))))
  refine wpAny_bind (wpAny_pure ?_)
  refine wpAny_bind ?_
  refine wpAny_bind ?_
  first | refine wpAny_bind (wpAny_typeNameOfWhole_valiter hit.typeIs (wpAny_pure ?_)) | refine wpAny_bind (wpAny_typeNameOf_valiter hit.typeIs (wpAny_pure ?_))
  refine wpAny_bind (wpAny_fieldsOf ho hd ?_)
  have hown : Builtin.Dict_items.ownsTuple "dict_valueiterator" = false := by decide
  simp only [hown, Bool.false_eq_true, if_false]
  show wpAny _ _ (if (Value.ref d == Value.none) = true then _ else _) _ _ s
  rw [if_neg (show ¬ ((Value.ref d == Value.none) = true) from Bool.false_ne_true)]
  refine wpAny_bind (wpAny_pure ?_)
  refine wpAny_bind (wpAny_dictEntries hod hdd ?_)
  rw [if_neg (by simp)]
  refine wpAny_bind (wpAny_pure ?_)
  refine wpAny_bind (wpAny_dictEpoch hod hdd ?_)
  rw [if_neg (by simp)]
  refine wpAny_pure ?_
  simp only [show ¬ ((i : Int) < 0) from by omega, if_false, Int.toNat_natCast, Array.getElem?_eq_getElem hi]
  refine wpAny_bind ?_
  first | refine wpAny_bind (wpAny_typeNameOfWhole_valiter hit.typeIs (wpAny_pure ?_)) | refine wpAny_bind (wpAny_typeNameOf_valiter hit.typeIs (wpAny_pure ?_))
  refine wpAny_bind (wpAny_isOneOf_valiter hit.typeIs ?_)
  show wpAny _ _ (setField (.ref it) 1 (rawInt ((i : Int) + 1)) >>= _) _ _ s
  refine wpAny_bind (wpAny_setField ho hd (by simp) ?_)
  have hit' : (s.heap.update it (Obj.mapFields (·.setIfInBounds 1 (rawInt ((i : Int) + 1))))).IsValIter it d (i + 1) es.size ep :=
    ⟨_, Heap.get?_update_self _ ho (Obj.isFreed_of_fields (Obj.data_mapFields hd _)), (Obj.cls_mapFields ..).trans hc, by rw [Obj.data_mapFields hd]; simp [rawInt]⟩
  refine wpAny_bind (wpAny_holding ?_)
  refine wpAny_bind (wpAny_isOneOf_valiter (s := { s with heap := s.heap.update it (Obj.mapFields (·.setIfInBounds 1 (rawInt ((i : Int) + 1)))) }) hit'.typeIs ?_)
  refine wpAny_bind (wpAny_isOneOf_valiter (s := { s with heap := s.heap.update it (Obj.mapFields (·.setIfInBounds 1 (rawInt ((i : Int) + 1)))) }) hit'.typeIs ?_)
  show wpAny _ _ (pure es[i].val) _ _ _
  exact wpAny_pure (wpAny_pure ⟨_, rfl, wpAny_pure (hQ _ hit' (Heap.SameBut.update ..))⟩)
theorem raw_done_values {Q : Option Value → Shared → Prop} (hh : A.handled = none) (hit : s.heap.IsValIter it d es.size es.size ep) (hm : DRaw s.heap d es ep)
    (hQ : ∀ h', Heap.ExtBut it s.heap h' → Q none { s with heap := h' }) : wpAny (model prog w) A (pyNext (.ref it)) Q E s := by
  obtain ⟨o, ho, hc, hd⟩ := id hit
  obtain ⟨od, hod, hcd, hdd⟩ := hm
  unfold pyNext
  refine wpAny_bind (wpAny_attempt (wpAny_callSpecial?_slot (name := Str.ofString "__next__") hit.typeIs F.slot_dict_valueiterator_next
    (wpAny_call_entry F.slot_dict_valueiterator_next hit.typeIs F.entry_dict_valueiterator_next ?_ (F.args_dict_valueiterator_next_1 _))))
  refine wpAny_bind (wpAny_pure ?_)
  refine wpAny_bind ?_
  refine wpAny_bind ?_
  first | refine wpAny_bind (wpAny_typeNameOfWhole_valiter hit.typeIs (wpAny_pure ?_)) | refine wpAny_bind (wpAny_typeNameOf_valiter hit.typeIs (wpAny_pure ?_))
  refine wpAny_bind (wpAny_fieldsOf ho hd ?_)
  have hown : Builtin.Dict_items.ownsTuple "dict_valueiterator" = false := by decide
  simp only [hown, Bool.false_eq_true, if_false]
  show wpAny _ _ (if (Value.ref d == Value.none) = true then _ else _) _ _ s
  rw [if_neg (show ¬ ((Value.ref d == Value.none) = true) from Bool.false_ne_true)]
  refine wpAny_bind (wpAny_pure ?_)
  refine wpAny_bind (wpAny_dictEntries hod hdd ?_)
  rw [if_neg (by simp)]
  refine wpAny_bind (wpAny_pure ?_)
  refine wpAny_bind (wpAny_dictEpoch hod hdd ?_)
  rw [if_neg (by simp)]
  refine wpAny_pure ?_
  simp only [show ¬ ((es.size : Int) < 0) from by omega, if_false, Int.toNat_natCast, Array.getElem?_eq_none (Nat.le_refl es.size)]
  refine wpAny_bind ?_
  first | refine wpAny_bind (wpAny_typeNameOfWhole_valiter hit.typeIs (wpAny_pure ?_)) | refine wpAny_bind (wpAny_typeNameOf_valiter hit.typeIs (wpAny_pure ?_))
  show wpAny _ _ (setField (.ref it) 0 .none >>= _) _ _ s
  refine wpAny_bind (wpAny_setField ho hd (by simp) ?_)
  show wpAny _ _ (newExc (.type "StopIteration") [] >>= _) _ _ _
  refine wpAny_bind ?_
  simp only [newExc, newTuple]
  refine wpAny_bind (wpAny_newObj_type ?_ (by size_fits))
  refine wpAny_bind (m := firstArgMember _ _) (wpAny_of_eq (a := Value.none) (by first | rfl | (simp only [firstArgMember]; rfl)) ?_)
  refine wpAny_newObj_type ?_ (by size_fits)
  simp only [raiseNew]
  refine wpAny_bind (wpAny_handled ?_)
  rw [show A.in1.handled = none from hh]
  refine wpAny_bind (wpAny_pure (wpAny_throw ?_))
  refine wpAny_bind (wpAny_isInstance (T := "StopIteration") (b := true) ⟨_, Heap.get?_push_size _ rfl, rfl⟩ isSubtype_stop ?_)
  exact wpAny_pure (hQ _ (((Heap.SameBut.update ..).extBut.push _).push _))
theorem raw_walks (hh : A.handled = none) (I d : Addr) (hne : d ≠ I) (es : Array DictEntry) (ep : Nat) :
    Walks prog w A I [I, d] [I] es.size (fun i v => ∃ e, es[i]? = some e ∧ e.key = v) (fun i h => h.IsKeyIter I d i es.size ep ∧ DRaw h d es ep) where
  sub := fun b hb => by simp at hb; simp [hb]
  frame := fun _ _ _ st hk => ⟨st.1.at fun o e => hk I (by simp) o e, st.2.at' fun o e => hk d (by simp) o e⟩
  item := fun i s Q E hi st hQ => raw_next st.1 st.2 hi fun h' hit' hs' => hQ _ h' s.toks ⟨es[i], by simp [hi], rfl⟩ ⟨hit', st.2.at' fun o e => hs'.extBut d o hne e⟩ fun b o hb e => hs'.extBut b o (fun h => hb (by simp [h])) e
  done := fun s Q E st hQ => raw_done hh st.1 st.2 fun h' he' => hQ h' s.toks fun b o hb e => he' b o (fun h => hb (by simp [h])) e
  self := fun _ _ _ _ st hQ => wpAny_pyIter_keyiter st.1 hQ
theorem raw_walks_values (hh : A.handled = none) (I d : Addr) (hne : d ≠ I) (es : Array DictEntry) (ep : Nat) :
    Walks prog w A I [I, d] [I] es.size (fun i v => ∃ e, es[i]? = some e ∧ e.val = v) (fun i h => h.IsValIter I d i es.size ep ∧ DRaw h d es ep) where
  sub := fun b hb => by simp at hb; simp [hb]
  frame := fun _ _ _ st hk => ⟨st.1.at fun o e => hk I (by simp) o e, st.2.at' fun o e => hk d (by simp) o e⟩
  item := fun i s Q E hi st hQ => raw_next_values st.1 st.2 hi fun h' hit' hs' => hQ _ h' s.toks ⟨es[i], by simp [hi], rfl⟩ ⟨hit', st.2.at' fun o e => hs'.extBut d o hne e⟩ fun b o hb e => hs'.extBut b o (fun h => hb (by simp [h])) e
  done := fun s Q E st hQ => raw_done_values hh st.1 st.2 fun h' he' => hQ h' s.toks fun b o hb e => he' b o (fun h => hb (by simp [h])) e
  self := fun _ _ _ _ st hQ => wpAny_pyIter_valiter st.1 hQ
theorem raw_src (lo : (d == sysModules) = false) : PySem.W.KdlSrc prog w "dict" d d es.size (fun i v => ∃ e, es[i]? = some e ∧ e.key = v) (fun h => DRaw h d es ep) where
  type := fun _ hm => hm.typeIs
  there := fun _ hm => ⟨hm.lt, hm.lt⟩
  keep := fun _ _ hm hk => hm.at' fun o e => hk d (.inl rfl) o e
  notList := by decide
  notTuple := by decide
  hint := fun _ _ _ _ hm hq => PySem.W.kdl_hint_dict hm.typeIs hq
  iter := fun _ _ hh hm => ⟨_, _, (fun _ _ hq => raw_iter lo hm hq), raw_walks hh _ d (Nat.ne_of_lt hm.lt) es ep, ⟨⟨_, Heap.get?_push_size _ rfl, rfl, rfl⟩, hm.at' fun o e => Heap.get?_push_of_some _ e⟩⟩
theorem raw_src_values : PySem.W.KdlSrc prog w "dict_values" v d es.size (fun i x => ∃ e, es[i]? = some e ∧ e.val = x) (fun h => h.IsValuesView v d ∧ DRaw h d es ep) where
  type := fun _ hm => hm.1.typeIs
  there := fun _ hm => ⟨let ⟨_, ho, _⟩ := hm.1; Heap.lt_size ho, hm.2.lt⟩
  keep := fun _ _ hm hk => ⟨let ⟨o, ho, x⟩ := hm.1; ⟨o, hk v (.inl rfl) o ho, x⟩, hm.2.at' fun o e => hk d (.inr rfl) o e⟩
  notList := by decide
  notTuple := by decide
  hint := fun _ _ _ _ hm hq => PySem.W.kdl_hint_values hm.1.typeIs hq
  iter := fun _ _ hh hm => ⟨_, _, (fun _ _ hq => raw_iter_values hm.1 hm.2 hq), raw_walks_values hh _ d (Nat.ne_of_lt hm.2.lt) es ep, ⟨⟨_, Heap.get?_push_size _ rfl, rfl, rfl⟩, hm.2.at' fun o e => Heap.get?_push_of_some _ e⟩⟩
theorem raw_meets_values (d : Addr) (hd : (d == sysModules) = false) :
    MeetsIn prog w (Builtin.«dict.values» ⟨[.ref d], []⟩) (fun _ R s => (∃ es ep, DRaw s.heap d es ep) ∧
      R (.ok (.ret (.ref s.heap.objs.size))) { s with heap := s.heap.push { cls := .type "dict_values", data := .fields #[.ref d] } }) :=
  .of_wp fun A R s ⟨⟨es, ep, hm⟩, h⟩ => by
    refine wpAny_bind ?_
    unfold Builtin.Dict.noArgs
    refine wpAny_bind (wpAny_notOrdered_dict hm.typeIs ?_)
    show wpAny _ _ (pure d) _ _ s
    refine wpAny_pure ?_
    show wpAny _ _ (Builtin.Dict.showsAll d >>= _) _ _ s
    unfold Builtin.Dict.showsAll
    rw [if_neg (by rw [hd]; exact Bool.false_ne_true)]
    refine wpAny_bind (wpAny_pure ?_)
    exact wpAny_bind (wpAny_newObj_type (wpAny_pure ⟨_, rfl, h⟩))
end
end PySem
namespace L2
open PySem PySem.Spec PyProof.Rows
section
variable {X : Cx} {κ : Type} [DecidableEq κ] {knd : HeapKind X.prog X.w κ}
/-- list(d) -/
def rListD (knd : HeapKind X.prog X.w κ) : List V → Hp → VK → Prop := fun vs H Q => ∃ d es, vs = [.ref d] ∧ H d = some (DO knd d es) ∧ ∀ l, H l = none → Q (.ref l) (upd H l (.lst (es.map fun e => .ref e.2.1)))
theorem vals_at {xs : List V} {us : List Value} (hl : xs.length = us.length) (h : ∀ (i : Nat) (x : V) (u : Value), xs[i]? = some x → us[i]? = some u → RelV x u) : Vals xs us := by
  induction xs generalizing us with
  | nil => cases us with
    | nil => exact .nil
    | cons u us => simp at hl
  | cons x xs ih => cases us with
    | nil => simp at hl
    | cons u us => exact .cons (h 0 x u rfl rfl) (ih (by simpa using hl) fun i y v h1 h2 => h (i + 1) y v (by simpa using h1) (by simpa using h2))
theorem paired_get {α β : Type} {F : α → β → Prop} : ∀ {l₁ : List α} {l₂ : List β} {i : Nat} {a : α}, Paired F l₁ l₂ → l₁[i]? = some a → ∃ b, l₂[i]? = some b ∧ F a b
  | _, _, _, _, .nil, e => by simp at e
  | _, _, 0, _, .cons r _, e => by simp at e; subst e; exact ⟨_, rfl, r⟩
  | _, _, i + 1, a, .cons _ t, e => by
    obtain ⟨b, h1, h2⟩ := paired_get (i := i) (a := a) t (by simpa using e)
    exact ⟨b, by simpa using h1, h2⟩
theorem call_list_dict (hh : X.A.handled = none) : CallR X (.type "list") (rListD knd) := by
  intro pins s σ H vs us Q I rv h
  obtain ⟨d, es, rfl, hd, h⟩ := h
  obtain ⟨u, rfl, ru⟩ := rv.one
  cases ru
  obtain ⟨⟨h1, h2, h3, o, ees, ep, xs, q1, q2, q3, q4, q5⟩, _, _⟩ := I.hok d _ hd
  have esz : ees.size = es.length := by rw [ent_len q5, size_of_entries q4]
  refine PySem.W.kdl_call (raw_src (es := ees) (ep := ep) h1) hh ⟨o, q1, q2, q3⟩ (by rw [esz]; exact h2) fun h' tk acc' c' hk hS hI => ?_
  have rel : Vals (es.map fun e => V.ref e.2.1) acc'.toList := by
    refine vals_at (by rw [List.length_map]; exact esz.symm.trans (hI.1.symm.trans Array.length_toList.symm)) fun i x v e1 e2 => ?_
    obtain ⟨e, he, hk'⟩ := hI.2 i v (by rw [← Array.getElem?_toList]; exact e2)
    rw [List.getElem?_map] at e1
    cases q : es[i]? with
    | none => rw [q] at e1; cases e1
    | some en =>
      rw [q] at e1
      cases e1
      obtain ⟨y, hy, r1, r2, r3⟩ := paired_get q5 q
      have e3 : ees[i]? = some (entryOfKey knd y) := by rw [entry_at q4, hy]; rfl
      rw [e3] at he
      cases he
      rw [← hk']
      show RelV (V.ref en.2.1) (Value.ref y.2.1)
      rw [r2]; rfl
  refine ⟨.ref s.heap.objs.size, _, I.laid (a := s.heap.objs.size) (o := .lst (es.map fun e => .ref e.2.1)) hk (Nat.le_refl _) ⟨by rw [List.length_map]; exact h2, acc'.toList, c', rel, ?_⟩, rfl, h _ (I.hok.fresh (Nat.le_refl _))⟩
  rw [hS, Array.toArray_toList]
end
end L2

set_option maxHeartbeats 4000000
namespace L2
open PySem PySem.Spec PyProof.Rows
section
variable {X : Cx} {κ : Type} [DecidableEq κ] {knd : HeapKind X.prog X.w κ}
theorem ix_dict {isK : Hp → κ → Addr → Prop} (F : KeyF X knd isK) : IxR X (rDItem knd isK) := by
  intro value slice pins s σ H x y v u Q I rx ry h hs
  obtain ⟨d, p, k, es, z, rfl, rfl, hd, hk, hks, hz, q⟩ := h
  cases rx
  cases ry
  obtain ⟨_, _, xs, D, pr⟩ := I.dictH hd fun e he => F.snd pins σ H s _ _ I (hks e he)
  have eg := ent_get k pr
  rw [hz] at eg
  cases ev : atKey xs k with
  | none => rw [ev] at eg; exact eg.elim
  | some w' =>
    rw [ev] at eg
    exact tail_any D.typeIs slot_dict_getitem.lookup (wpAny_getItem_heap F.room (F.snd pins σ H s k p I hk) D ev ⟨z, H, I.tok _, eg, q⟩) hs
end
/-! ### keys that are tuples of ints -/
def isKI (K : PySem.W.Frag) : Hp → List Int → Addr → Prop := fun H k p => SqT K H p (k.map V.int)
theorem items_are {P : Program} {w : World} : ∀ {k : List Int} {us : List Value}, Vals (k.map V.int) us → ItemsAre (PySem.intKind P w) k us
  | [], _, r => by cases r; exact .nil
  | i :: k, _, r => by
    cases r with
    | cons r1 r2 =>
      obtain ⟨t, rfl⟩ := r1
      exact .cons (intKind_is P w i t) (items_are r2)
theorem keyI {X : Cx} (hu : X.A.units + 1 < cLine) : KeyF X (tupleKind (PySem.intKind X.prog X.w)) (isKI X.K) where
  snd := fun pins σ H s k p I h => by
    obtain ⟨its, r, ⟨o, e, c, n, d⟩, _⟩ := I.tuple h
    exact ⟨o, _, n, e, c, d, by simpa using items_are r⟩
  room := hu
theorem isKI.same {K : PySem.W.Frag} {H H' : Hp} {k : List Int} {p : Addr} (e : Same H H') (h : isKI K H k p) : isKI K H' k p := e.tup h
theorem isKI.grow {K : PySem.W.Frag} {H H' : Hp} {k : List Int} {p : Addr} (e : Grow H H') (h : isKI K H k p) : isKI K H' k p := e.tup h
end L2

set_option maxHeartbeats 4000000
namespace L2
open PySem PySem.Spec PyProof.Rows
/-! ### a lambda, made and called -/
/-- the state of the table of a def's code object, in which its lambda's code is kept -/
def TabS (H : Hp) (P : Addr) (pos : Pos) (qual : Str) : Prop := ∃ ps : Array Value, H P = some (.tbl ps) ∧ TriplesOk ps.toList ∧
  (codeAmong pos ps.toList = none ∨ ∃ (c' : Addr) (oc : Obj) (vs : Array Value) (t : Tok), codeAmong pos ps.toList = some (.ref c') ∧ H c' = some (.frz oc (.own 0)) ∧ oc.data = .fields vs ∧ vs[1]? = some (.str qual t))
theorem TabS.mono {H H' : Hp} {P : Addr} {pos : Pos} {qual : Str} (h : TabS H P pos qual) (k1 : ∀ b ps, H b = some (.tbl ps) → H' b = some (.tbl ps)) (k2 : ∀ b o u, H b = some (.frz o u) → H' b = some (.frz o u)) : TabS H' P pos qual := by
  obtain ⟨ps, h1, h2, h3⟩ := h
  refine ⟨ps, k1 _ _ h1, h2, ?_⟩
  rcases h3 with h3 | ⟨c', oc, vs, t, e1, e2, e3⟩
  · exact .inl h3
  · exact .inr ⟨c', oc, vs, t, e1, k2 _ _ _ e2, e3⟩
theorem TabS.same {H H' : Hp} {P : Addr} {pos : Pos} {qual : Str} (e : Same H H') (h : TabS H P pos qual) : TabS H' P pos qual := h.mono (fun _ _ q => e _ _ q) fun _ _ _ q => e _ _ q
theorem TabS.but {H H' : Hp} {P a : Addr} {o : HO} {pos : Pos} {qual : Str} (e : But a H H') (ha : H a = some o) (n1 : ∀ ps, o ≠ .tbl ps) (n2 : ∀ x u, o ≠ .frz x u) (h : TabS H P pos qual) : TabS H' P pos qual :=
  h.mono (fun b ps q => e _ _ (ne_of q ha (Ne.symm (n1 ps))) q) fun b x u q => e _ _ (ne_of q ha (Ne.symm (n2 x u))) q
theorem triples_snoc {a b : Int} {c : Value} : ∀ (l : List Value), TriplesOk l → TriplesOk (l ++ [rawInt a, rawInt b, c])
  | [], _ => True.intro
  | .int _ _ :: .int _ _ :: _ :: rest, h => triples_snoc rest h
/-- what stands of the builtins' module -/
def BMod (mg : Str → Option Value) (base : Heap) : Prop := ∃ bm ob, mg "__builtins__" = some (.ref bm) ∧ bm ≠ builtinsNs ∧ base.get? bm = some ob ∧ ob.cls = .type "module" ∧ ob.dict = some builtinsNs ∧ ob.data = .plain
section
variable {X : Cx} {pins : List (Addr × Obj)} {σ : St} {H : Hp} {s : Shared} {c P : Addr} {params : Arguments} {body : Expr} {scope : Scope} {pos : Pos} {cl : List (Str × Addr)}
theorem Inv.tabled {c' : Addr} {ps more : Array Value} {oc : Obj} {h' : Heap} {tk : Nat} (I : Inv X pins σ H s) (hP : H P = some (.tbl ps)) (hx : Heap.ExtBut P s.heap h') (htb : h'.get? P = some (PySem.W.tabObj (ps ++ more))) (hge : s.heap.objs.size ≤ c') (hoc : h'.get? c' = some oc) :
    Inv X pins σ (upd (upd H P (.tbl (ps ++ more))) c' (.frz oc (.own 0))) { s with heap := h', toks := tk } := by
  have nc : ∀ b o, H b = some o → b ≠ c' := fun b o q => ne_of_none q (I.hok.fresh hge)
  have nP : ∀ b, H b = none → b ≠ P := fun b q z => by rw [z, hP] at q; cases q
  have ncP : P ≠ c' := nc _ _ hP
  have get : ∀ b, b ≠ P → b ≠ c' → (upd (upd H P (.tbl (ps ++ more))) c' (.frz oc (.own 0))) b = H b := fun b h1 h2 => by rw [upd_ne h2, upd_ne h1]
  have lt : ∀ b o, s.heap.get? b = some o → b ≠ c' := fun b o q => Nat.ne_of_lt (Nat.lt_of_lt_of_le (Heap.lt_size q) hge)
  refine I.un ⟨fun b o q n _ _ => hx b o (nP b n) q, fun b o q n _ _ => ⟨o.slots, hx b o (nP b n) q⟩, fun b o q n _ => ?_, fun b o q _ => ?_, fun b xs q => ?_, fun b o u q => ?_, fun b qs q => ?_⟩ fun b u q => ?_
  · rw [get b (nP b n) (lt b o q)]; exact n
  · by_cases hb : b = P
    · subst hb; exact ⟨_, htb⟩
    · exact ⟨o, hx b o hb q⟩
  · rw [get b (ne_of q hP (by intro z; cases z)) (nc b _ q)]; exact q
  · rw [get b (ne_of q hP (by intro z; cases z)) (nc b _ q)]; exact q
  · by_cases hb : b = P
    · subst hb
      rw [hP] at q; cases q
      exact ⟨more, by rw [upd_ne ncP, upd_same]⟩
    · exact ⟨#[], by rw [get b hb (nc b _ q), q]; simp⟩
  · by_cases hb : b = c'
    · subst hb
      rw [upd_same] at q; cases q
      exact ⟨hoc, ⟨_, hoc⟩⟩
    · by_cases hb2 : b = P
      · subst hb2
        rw [upd_ne hb, upd_same] at q; cases q
        exact htb
      · rw [get b hb2 hb] at q
        refine (I.hok b u q).stay (fun d v hd r => hx d v ?_ r) (fun d r => ?_) fun d xs r => ?_
        · rcases hd with rfl | hd
          · exact hb2
          · exact ne_of hd hP (by intro z; cases z)
        · rw [get d (ne_of r hP (by intro z; cases z)) (nc d _ r)]; exact r
        · rw [get d (ne_of r hP (by intro z; cases z)) (nc d _ r)]; exact r
theorem lam_make {M : Model} {A : Around} {E : Value → Shared → Prop} {Q : Value → Shared → Prop} (I : Inv X pins σ H s) (B : BMod X.mg X.base) (hC : PySem.W.codeHdIn X.K c P = true) (hcode : X.env.code = .ref c) (T : TabS H P pos (X.env.qual ++ "<lambda>")) (hcl : closureFor scope X.env = pure cl)
    (hdef : defaultsOf params X.env = ([], []))
    (h : ∀ (f c' : Addr) (pm ctv : Value) (oc : Obj) (vs : Array Value) (t : Tok) (H' : Hp) (s' : Shared), Inv X (pins ++ [(f, PySem.W.kla_obj "<lambda>" (X.env.qual ++ "<lambda>") params body scope cl pm c' ctv)]) σ H' s' → But P H H' → TabS H' P pos (X.env.qual ++ "<lambda>") →
      H' c' = some (.frz oc (.own 0)) → oc.data = .fields vs → vs[1]? = some (.str (X.env.qual ++ "<lambda>") t) → Q (.ref f) s') : wpAny M A (eval (.Lambda params body scope pos) X.env) Q E s := by
  refine PySem.W.kla_eval hdef ?_
  obtain ⟨ps, hP, htr, hc⟩ := T
  have hPo : s.heap.get? P = some (PySem.W.tabObj ps) := I.hok P _ hP
  have C : PySem.W.CodeHd s.heap c P := PySem.W.codeHd_of_K I.kIn hC
  have G := I.mod.glob.keeps I.bk
  have hgP : mainGlobals ≠ P := fun q => by
    obtain ⟨o, es, ep, e, hd, _⟩ := G
    rw [q, hPo] at e; cases e; cases hd
  obtain ⟨bm, ob, b1, b2, b3, b4, b5, b6⟩ := B
  have hbP : bm ≠ P := fun q => by
    have e := I.bk _ _ b3
    rw [q, hPo] at e; cases e; cases b4
  have hbG : bm ≠ mainGlobals := fun q => by
    obtain ⟨o, es, ep, e, hd, _⟩ := G
    have e' := I.bk _ _ b3
    rw [q, e] at e'; cases e'; rw [hd] at b6; cases b6
  have hB : s.heap.BuiltinsAt X.mg P := ⟨bm, ob, b1, b2, hbG, hbP, I.bk _ _ b3, b4, b5, b6⟩
  -- the new function object is pinned
  have pinF : ∀ {H1 : Hp} {h1 : Heap} {tk : Nat} {obj : Obj}, Inv X pins σ H1 { s with heap := h1, toks := tk } → s.heap.objs.size ≤ h1.objs.size → (∀ v, obj.data ≠ .cell v) → obj.isFreed = false → Inv X (pins ++ [(h1.objs.size, obj)]) σ H1 { s with heap := h1.push obj, toks := tk } := by
    intro H1 h1 tk obj I1 hsz hnc hfr
    have I2 : Inv X pins σ H1 { s with heap := h1.push obj, toks := tk } := I1.kept (t' := tk) fun b u q => Heap.get?_push_of_some _ q
    have f0 : FpOk X pins H1 h1.objs.size := I1.fpOk (Nat.le_refl _) (I1.hok.fresh (Nat.le_refl _))
    refine I2.pins_of fun p hp => ?_
    rcases List.mem_append.mp hp with z | z
    · exact I2.pin p (List.mem_append_right _ z)
    · rw [List.mem_singleton.mp z]
      exact ⟨Heap.get?_push_size _ hfr, f0.1, f0.2.1, f0.2.2.1, hnc⟩
  rcases hc with hn | ⟨c', oc, vs, t, e1, e2, e3, e4⟩
  · refine PySem.W.kla_makeFunction (mg := X.mg) hcl I.ok.glob G hcode C hPo htr hn hgP hB fun c' ctv h' tk hx hge hlt hrec htb => ?_
    obtain ⟨c₂, oc, vs, t, e2, hoc, hd, hv⟩ := hrec
    cases e2
    have I1 := I.tabled (tk := tk) hP hx htb hge hoc
    have hsz : s.heap.objs.size ≤ h'.objs.size := Nat.le_trans hge (Nat.le_of_lt hlt)
    have ncP : P ≠ c' := ne_of_none hP (I.hok.fresh hge)
    refine h h'.objs.size c' _ ctv oc vs t _ _ (pinF I1 hsz (fun v z => by cases z) rfl) (fun b o nb q => ?_) ⟨_, by rw [upd_ne ncP, upd_same], ?_, .inr ⟨c', oc, vs, t, ?_, upd_same, hd, hv⟩⟩ upd_same hd hv
    · rw [upd_ne (ne_of_none q (I.hok.fresh hge)), upd_ne nb]; exact q
    · rw [Array.toList_append]; exact triples_snoc _ htr
    · rw [Array.toList_append]; exact codeAmong_snoc _ htr hn
  · refine PySem.W.kla_makeFunctionHit (mg := X.mg) hcl I.ok.glob G hcode C hPo htr e1 hB fun ctv h' tk hk hsz => ?_
    have I1 : Inv X pins σ H { s with heap := h', toks := tk } := I.kept hk
    exact h h'.objs.size c' _ ctv oc vs t H _ (pinF I1 hsz (fun v z => by cases z) rfl) (But.refl _ _) ⟨ps, hP, htr, .inr ⟨c', oc, vs, t, e1, e2, e3, e4⟩⟩ e2 e3 e4
end
end L2

set_option maxHeartbeats 4000000
namespace L2
open PySem PySem.Spec PyProof.Rows
/-- the context of a lambda's body, whose call raises nothing -/
def lamX (X : Cx) (A' : Around) (N' : List Str) (qual : Str) (scope : Scope) (cl : List (Str × Addr)) (f : Addr) (cd : Value) (s : Shared) (H : Hp) : Cx :=
  { X with A := A'.deeper (PySem.W.envX qual scope s.heap.objs.size f cd cl), N := N', s₀ := s, H₀ := H, env := PySem.W.envX qual scope s.heap.objs.size f cd cl, outer := X.stack, stack := (PySem.W.envX qual scope s.heap.objs.size f cd cl) :: X.stack, ex := [], fn := fun _ => false, calm := true, pn := [], xe := fun _ _ => False }
/-- its names: the parameter x, then those of the def that it sees -/
structure LamScope (X : Cx) (x : Str) (N' : List Str) (js : List (Option Nat)) (scope : Scope) (cl : List (Str × Addr)) : Prop where
  kind : scope.kind = .function
  co : scope.isCoroutine = false
  gen : scope.isGenerator = false
  nocell : ∀ y ∈ scope.names, y.2 ≠ .cell
  par : scope.names.lookup x = some .local
  clos : closureFor scope X.env = pure cl
  cells : ∀ x c, cl.lookup x = some c → X.env.cells.lookup x = some c
  has : ∀ x, (scope.names.lookup x = some .cell ∨ scope.names.lookup x = some .free) → ∃ c, cl.lookup x = some c
  len : js.length = N'.length
  sees : ∀ (i j : Nat) (y : Str), js[i]? = some (some j) → N'[i]? = some y → X.N[j]? = some y ∧ X.env.kindOf y ≠ some .local ∧ Vis X.env.scope y ∧ scope.names.lookup y = some .free
section
variable {X : Cx} {pins : List (Addr × Obj)} {σ : St} {H : Hp} {s : Shared} {A' : Around} {x : Str} {N' : List Str} {js : List (Option Nat)} {scope : Scope} {cl : List (Str × Addr)} {qual : Str} {f : Addr} {cd : Value}
theorem lam_ok (I : Inv X pins σ H s) (B : LamScope X x N' js scope cl) (hA : A'.frames = some X.stack) (hd : A'.handled = none) : (lamX X A' (x :: N') qual scope cl f cd s H).Ok := by
  have no : ∀ b : Addr, b ∉ (lamX X A' (x :: N') qual scope cl f cd s H).ex := fun b z => absurd (show b ∈ ([] : List Addr) from z) (by simp)
  exact ⟨I.ok.mod, B.kind, rfl, rfl, Nat.le_refl _, fun x y c e1 e2 => I.ok.inj x y c (B.cells x c e1) (B.cells y c e2), fun x h => B.has x h, fun x c e _ => absurd e Bool.false_ne_true, fun _ => hd, Around.frames_deeper hA, .inr ⟨rfl, rfl⟩,
    fun b z => absurd z (no b), I.bs, Nat.le_trans I.ok.bsz I.sz, fun b _ _ => no b, fun b z => absurd z (no b), I.stack, I.stkFree⟩
theorem lam_start (I : Inv X pins σ H s) (B : LamScope X x N' js scope cl) (hA : A'.frames = some X.stack) (hd : A'.handled = none) {v : V} {u : Value} (r : RelV v u) {h1 : Heap} {tk : Nat} (hk : ∀ b o, s.heap.get? b = some o → h1.get? b = some o)
    (hn : h1.Ns s.heap.objs.size fun y => [(x, u)].reverse.lookup y) : Inv (lamX X A' (x :: N') qual scope cl f cd s H) [] (some v :: seen js σ) H { s with heap := h1, toks := tk } := by
  refine ⟨lam_ok I B hA hd, rfl, I.bare, Un.kept hk, ⟨_, hn, fun i y v' e1 e2 e3 => ?_⟩, fun y c e => ?_, I.hok.fresh (Nat.le_refl _), fun y c e => I.freeC y c (B.cells y c e), fun p hp => absurd (show p ∈ ([] : List (Addr × Obj)) from hp) (by simp), I.hok.kept hk, ?_⟩
  · cases i with
    | zero =>
      have e1' : x = y := Option.some.inj e1
      have e2' : some v = some v' := Option.some.inj e2
      cases e2'
      subst e1'
      exact ⟨u, r, .inl ⟨B.par, by simp [List.lookup]⟩⟩
    | succ i =>
      have e1' : N'[i]? = some y := e1
      have e2' : (js.map fun o => o.bind fun j => (σ[j]?).join)[i]? = some (some v') := e2
      rw [List.getElem?_map] at e2'
      cases q : js[i]? with
      | none => rw [q] at e2'; cases e2'
      | some o =>
        cases o with
        | none => rw [q] at e2'; cases e2'
        | some j =>
          rw [q] at e2'
          have e3' : (σ[j]?).join = some v' := Option.some.inj e2'
          have hj : σ[j]? = some (some v') := by
            cases r : σ[j]? with
            | none => rw [r] at e3'; cases e3'
            | some y => rw [r] at e3'; rw [show y = some v' from e3']
          obtain ⟨hN, hkd, hv, hr⟩ := B.sees i j y q e1'
          obtain ⟨m0, _, hl⟩ := I.loc
          obtain ⟨u', ru, l⟩ := hl j y v' hN hj hv
          refine ⟨u', ru, .inr ⟨.inr hr, ?_⟩⟩
          rcases l with ⟨z, _⟩ | ⟨_, c, e, hc⟩
          · exact absurd z hkd
          · obtain ⟨c', e'⟩ := B.has y (.inr hr)
            have z : c' = c := Option.some.inj ((B.cells y c' e').symm.trans e)
            subst z
            obtain ⟨o, q1, q2⟩ := hc
            exact ⟨c', e', o, hk _ _ q1, q2⟩
  · obtain ⟨v0, o, q1, q2⟩ := I.cell y c (B.cells y c e)
    exact ⟨v0, o, hk _ _ q1, q2⟩
  · show (js.map _).length + 1 = (x :: N').length
    rw [List.length_map, B.len, List.length_cons]
/-- a call of it -/
theorem lam_run {name : Str} {params : Arguments} {body : Expr} {pm ctv : Value} {c' : Addr} {oc : Obj} {vs : Array Value} {tq : Tok} {t : TE} {Q : VK} {v : V} {u : Value} {E : Value → Shared → Prop} (I : Inv X pins σ H s) (B : LamScope X x N' js scope cl) (hA : A'.frames = some X.stack) (hd : A'.handled = none) (hr : A'.depth < recursionLimit)
    (ho : s.heap.get? f = some (PySem.W.kla_obj name qual params body scope cl pm c' ctv)) (hc : H c' = some (.frz oc (.own 0))) (hf : oc.data = .fields vs) (hv : vs[1]? = some (.str qual tq))
    (hbind : ∀ pm cd ct u, bindArgs (PySem.W.kla_fn name qual params body scope cl pm cd ct) ⟨[u], []⟩ = pure [(x, u)]) (r : RelV v u)
    (he : PE (lamX X A' (x :: N') qual scope cl f (.ref c') s H) body t) (h : t (some v :: seen js σ) H Q) : wpAny (model X.prog X.w) A' (call (.ref f) [u]) (EP X pins σ Q) E s := by
  have hoc : s.heap.get? c' = some oc := (I.hok c' _ hc).1
  refine wpAny_call (PySem.W.kla_callFunE hr ho rfl B.co B.gen rfl ⟨c', oc, vs, tq, rfl, hoc, hf, hv⟩ ?_)
  rw [hbind]
  refine wpAny_pure (wpAny_newFunctionEnv B.nocell (fun y hy => by rw [List.mem_singleton.mp hy]; exact B.par) (fun h1 hns hsb => ⟨(I.nolimit).fresh _ hsb, ?_⟩) B.kind)
  have hk : ∀ b o, s.heap.get? b = some o → h1.get? b = some o := fun b o e => hsb.extBut b o (Nat.ne_of_lt (Heap.lt_size e)) (Heap.get?_push_of_some _ e)
  show codeAny _ _ (.expr body (PySem.W.envX qual scope s.heap.objs.size f (.ref c') cl)) _ _
  refine PySem.W.kla_codeExpr (wpAny_mono (he [] _ _ H Q (lam_start I B hA hd r hk hns) h) (fun w s' hq => ?_) fun _ _ z => z.elim)
  obtain ⟨y, H', J, ry, q⟩ := hq
  exact I.after ⟨y, H', J.os, J.bare, J.base, J.hok, ry, q⟩
end
end L2

set_option maxHeartbeats 4000000
namespace L2
open PySem PySem.Spec PyProof.Rows
/-! ### sorted(xs, key=lambda ..), the keys ints, fewer than 64 items -/
theorem perm_pair {α β : Type} {R : α → β → Prop} {l' l : List β} (p : l'.Perm l) : ∀ {k : List α}, Paired R k l → ∃ k', k'.Perm k ∧ Paired R k' l' := by
  induction p with
  | nil => intro k h; cases h; exact ⟨[], .refl _, .nil⟩
  | cons x _ ih =>
    intro k h
    cases h with
    | cons r t =>
      obtain ⟨k', p', q'⟩ := ih t
      exact ⟨_ :: k', p'.cons _, .cons r q'⟩
  | swap x y l =>
    intro k h
    cases h with
    | cons r t => cases t with
      | cons r2 t2 => exact ⟨_, List.Perm.swap _ _ _, .cons r2 (.cons r t2)⟩
  | trans _ _ ih1 ih2 =>
    intro k h
    obtain ⟨k2, p2, q2⟩ := ih2 h
    obtain ⟨k1, p1, q1⟩ := ih1 q2
    exact ⟨k1, p1.trans p2, q1⟩
def KVR (a : Int × V) (b : Int × Value) : Prop := a.1 = b.1 ∧ RelV a.2 b.2
theorem zip_pair : ∀ {kz : List Int} {xs : List V} {us : List Value}, Vals xs us → Paired KVR (kz.zip xs) (kz.zip us)
  | [], _, _, _ => .nil
  | _ :: _, _, _, .nil => .nil
  | k :: kz, _, _, .cons r t => .cons ⟨rfl, r⟩ (zip_pair t)
theorem snd_pair : ∀ {ps : List (Int × V)} {qs : List (Int × Value)}, Paired KVR ps qs → Vals (ps.map Prod.snd) (qs.map Prod.snd)
  | _, _, .nil => .nil
  | _, _, .cons r t => .cons r.2 (snd_pair t)
theorem fst_pair : ∀ {ps : List (Int × V)} {qs : List (Int × Value)}, Paired KVR ps qs → ps.map Prod.fst = qs.map Prod.fst
  | _, _, .nil => rfl
  | _, _, .cons r t => by rw [List.map_cons, List.map_cons, fst_pair t, r.1]
theorem out_vals {kz : List Int} {xs : List V} {vs out : List Value} (r : Vals xs vs) (h : KskOut false kz vs out) : ∃ ps : List (Int × V), ps.Perm (kz.zip xs) ∧ ps.Pairwise (fun p q => p.1 ≤ q.1) ∧ Vals (ps.map Prod.snd) out := by
  obtain ⟨qs, p, rfl, o⟩ := h
  obtain ⟨ps, p', q'⟩ := perm_pair p (zip_pair r)
  refine ⟨ps, p', ?_, snd_pair q'⟩
  have e := fst_pair q'
  have o' : (qs.map Prod.fst).Pairwise (fun a b => a ≤ b) := List.pairwise_map.mpr (o.imp fun h => h)
  rw [← e] at o'
  exact List.pairwise_map.mp o'
section
variable {X : Cx} {pins : List (Addr × Obj)} {σ : St} {H : Hp} {s : Shared}
theorem ns_uniq {h : Heap} {a : Addr} {m m' : Str → Option Value} (x : h.Ns a m) (y : h.Ns a m') : m = m' := by
  obtain ⟨o, es, ep, e, d, _, q⟩ := x
  obtain ⟨o', es', ep', e', d', _, q'⟩ := y
  rw [e] at e'; cases e'
  rw [d] at d'; cases d'
  funext n
  rw [← q, ← q']
/-- the list a (untracked, empty) is filled and tracked, the list kS is let go -/
theorem Inv.filled {a kS : Addr} {zs : List V} {out : Array Value} {c tk : Nat} {h' : Heap} {m : Str → Option Value} (I : Inv X pins σ H s) (fa : FpOk X pins H a) (fk : FpOk X pins H kS) (hm : s.heap.Ns X.env.locals m) (hm' : h'.Ns X.env.locals m)
    (keep : ∀ b o, b ≠ X.env.locals → b ≠ kS → b ≠ a → s.heap.get? b = some o → h'.get? b = some o) (ha : h'.get? a = some (seqObj "list" out c)) (hz : zs.length ≤ sizeLine) (r : Vals zs out.toList) :
    Inv X pins σ (upd H a (.lst zs)) { s with heap := h', toks := tk } := by
  have na : ∀ b o, H b = some o → b ≠ a := fun b o q => ne_of_none q fa.1
  have nk : ∀ b o, H b = some o → b ≠ kS := fun b o q => ne_of_none q fk.1
  have nl : ∀ b o, H b = some o → b ≠ X.env.locals := fun b o q => ne_of_none q I.free
  refine I.step (g' := s.gens) (d' := s.drawn) (ch := [kS, a]) (fun b hb => ?_) (fun b o hL _ hc e _ => keep b o hL (fun z => hc (by simp [z])) (fun z => hc (by simp [z])) e) (fun b o hL _ hc e _ => ⟨o.slots, keep b o hL (fun z => hc (by simp [z])) (fun z => hc (by simp [z])) e⟩)
    (fun b o hc _ n => by rw [upd_ne (fun z => hc (by simp [z]))]; exact n) (fun b o hc e => ?_) (fun b xs q => by rw [upd_ne (na b _ q)]; exact q) (fun b o u q => by rw [upd_ne (na b _ q)]; exact q) (fun b ps q => ⟨#[], by rw [upd_ne (na b _ q), q]; simp⟩)
    (fun m' hm2 => by rw [ns_uniq hm2 hm]; exact hm') (fun b u q => ?_) I.bare
  · rcases List.mem_cons.mp hb with z | z
    · rw [z]; exact ⟨fk.2.2.2.1, fk.2.1, fk.2.2.2.2.1, fk.2.2.2.2.2⟩
    · rw [List.mem_singleton.mp z]; exact ⟨fa.2.2.2.1, fa.2.1, fa.2.2.2.2.1, fa.2.2.2.2.2⟩
  · by_cases hL : b = X.env.locals
    · obtain ⟨o', _, _, e', _⟩ := hm'
      exact ⟨o', by rw [hL]; exact e'⟩
    · exact ⟨o, keep b o hL (fun z => hc (by simp [z])) (fun z => hc (by simp [z])) e⟩
  · by_cases hb : b = a
    · subst hb
      rw [upd_same] at q; cases q
      exact ⟨hz, out.toList, c, r, by rw [ha, Array.toArray_toList]⟩
    · rw [upd_ne hb] at q
      refine (I.hok b u q).stay (fun d v hd e => ?_) (fun d e => by rw [upd_ne (na d _ e)]; exact e) fun d xs e => by rw [upd_ne (na d _ e)]; exact e
      rcases hd with rfl | hd
      · exact keep d v (nl d _ q) (nk d _ q) hb e
      · exact keep d v (nl d _ hd) (nk d _ hd) (na d _ hd) e
/-- the list at kS (untracked) is changed -/
theorem Inv.grown {kS : Addr} {h' : Heap} {tk : Nat} (I : Inv X pins σ H s) (fk : FpOk X pins H kS) (hs : Heap.SameBut kS s.heap h') : Inv X pins σ H { s with heap := h', toks := tk } :=
  I.turned (it := kS) (fun b o hb e => (hs.2 b hb).trans e) fk.1 fk.2.1 fk.2.2.2.1 fk.2.2.2.2.1 fk.2.2.2.2.2
variable {x : Str} {N' : List Str} {js : List (Option Nat)} {scope : Scope} {cl : List (Str × Addr)} {qual name : Str} {f c' : Addr} {params : Arguments} {body : Expr} {pm ctv : Value} {oc : Obj} {fs : Array Value} {tq : Tok} {t : TE}
theorem sk_rest {A' : Around} {kS a : Addr} {e1 : Nat} {xs : List V} {vs : List Value} {kz : List Int} {P : PySem.Fin → Shared → Prop} {E : Value → Shared → Prop} (I : Inv X pins σ H s) (fa : FpOk X pins H a) (fk : FpOk X pins H kS) (hka : kS ≠ a)
    (hkS : s.heap.get? kS = some (seqObj "list" #[] 0)) (ha : s.heap.get? a = some (seqObj "list" #[] e1)) (r : Vals xs vs) (hlen : kz.length = vs.length) (h64 : vs.length < 64)
    (B : LamScope X x N' js scope cl) (hA : A'.frames = some X.stack) (hd : A'.handled = none) (hr : A'.depth < recursionLimit) (hpin : (f, PySem.W.kla_obj name qual params body scope cl pm c' ctv) ∈ X.pn ++ pins) (hc : H c' = some (.frz oc (.own 0))) (hf : oc.data = .fields fs) (hv : fs[1]? = some (.str qual tq))
    (hbind : ∀ pm cd ct u, bindArgs (PySem.W.kla_fn name qual params body scope cl pm cd ct) ⟨[u], []⟩ = pure [(x, u)]) (he : ∀ s0, PE (lamX X A' (x :: N') qual scope cl f (.ref c') s0 H) body t)
    (turn : ∀ (i : Nat) (v : V) (k : Int), xs[i]? = some v → kz[i]? = some k → t (some v :: seen js σ) H fun w H' => w = .int k ∧ H' = H)
    (h : ∀ (ps : List (Int × V)) s', ps.Perm (kz.zip xs) → ps.Pairwise (fun p q => p.1 ≤ q.1) → Inv X pins σ (upd H a (.lst (ps.map Prod.snd))) s' → P (.done (.ret .none)) s') :
    wpAny (model X.prog X.w) A' (ksk_rest a (.ref f) false vs.toArray e1 (.ref kS)) P E s := by
  have hxl := r.length
  unfold ksk_rest
  refine wpAny_bind (wpAny_rule ?_)
  first
    | rw [List.forIn_toArray]
    | (rw [← Array.forIn_toList]; simp only [List.toList_toArray])
    | rw [← Array.forIn_toList]
  refine wpAny_bind (ksk_fold (fun i s' => ∃ kA e, Inv X pins σ H s' ∧ s'.heap.get? kS = some (seqObj "list" kA e) ∧ s'.heap.get? a = some (seqObj "list" #[] e1) ∧ IntsAre kA.toList (kz.take i)) vs 0 s ⟨#[], 0, I, hkS, ha, by simpa using IntsAre.nil⟩ ?step ?done)
  case step =>
    rintro j u s' hu ⟨kA, e, I', hk', ha', hi⟩
    simp only [Nat.zero_add] at hi ⊢
    have hj : j < vs.length := (List.getElem?_eq_some_iff.mp hu).1
    obtain ⟨k, hkj⟩ : ∃ k, kz[j]? = some k := ⟨_, List.getElem?_eq_getElem (by omega)⟩
    obtain ⟨v, hvj, rv⟩ : ∃ v, xs[j]? = some v ∧ RelV v u := by
      have hx : xs[j]? = some xs[j] := by simp [hxl, hj]
      obtain ⟨u', e', r'⟩ := r.get hx
      rw [hu] at e'; cases e'
      exact ⟨_, hx, r'⟩
    have hz : kA.size ≤ vs.length := by
      have h1 := hi.length
      rw [Array.length_toList, List.length_take] at h1
      omega
    have stat : ∀ b ∈ [kS, a], FpOk X pins H b := fun b hb => by
      rcases List.mem_cons.mp hb with z | z
      · rw [z]; exact fk
      · rw [List.mem_singleton.mp z]; exact fa
    have Ip := I'.pinned (fp := [kS, a]) stat fun b hb => by
      rcases List.mem_cons.mp hb with z | z
      · rw [z]; exact ⟨_, hk', fun v z => by cases z⟩
      · rw [List.mem_singleton.mp z]; exact ⟨_, ha', fun v z => by cases z⟩
    refine wpAny_bind (wpAny_attempt (wpAny_mono (E := fun _ _ => False) (lam_run Ip B hA hd hr (I'.pin _ hpin).1 hc hf hv hbind rv (he s') (turn j v k hvj hkj)) (fun w s'' hq => ?_) fun _ _ z => z.elim))
    obtain ⟨y, H2, I2, ry, ey, eH⟩ := hq
    subst eH ey
    obtain ⟨t2, rfl⟩ := ry
    have nk := (I2.pin (kS, _) (List.mem_append_right _ (List.mem_append_right _ (mem_pinsAt (by simp) hk')))).1
    have na := (I2.pin (a, _) (List.mem_append_right _ (List.mem_append_right _ (mem_pinsAt (by simp) ha')))).1
    have s1 := Heap.SameBut.update s''.heap kS (Obj.mapSeq (·.push (.int k t2)))
    obtain ⟨c2, hc2⟩ : ∃ c2, (s''.heap.update kS (Obj.mapSeq (·.push (.int k t2)))).get? kS = some (seqObj "list" (kA.push (.int k t2)) c2) := ⟨_, get?_update_seq nk (·.push (.int k t2))⟩
    have ek : kz.take (j + 1) = kz.take j ++ [k] := by rw [List.take_add_one, hkj]; simp
    have ea : (kA.push (Value.int k t2)).toList = kA.toList ++ [Value.int k t2] := by simp
    refine wpAny_bind (listUpdate_at nk rfl ?_ (by rw [sizeLine_eq]; omega) (Nat.le_trans (Nat.le_of_eq (Array.size_push ..)) (by rw [sizeLine_eq]; omega)))
    exact wpAny_pure ⟨rfl, kA.push (.int k t2), c2, I2.unpinned.grown (tk := s''.toks) fk s1, hc2, (s1.2 a hka.symm).trans na, by rw [ea, ek]; exact ksk_snoc hi⟩
  case done =>
    rintro s' ⟨kA, e, I', hk', ha', hi⟩
    have hi' : IntsAre kA.toList kz := by
      have e3 : kz.take (0 + vs.length) = kz := List.take_of_length_le (by omega)
      rw [e3] at hi
      exact hi
    refine wpAny_bind (listItems_at hk' rfl ?_)
    obtain ⟨m, hm, _⟩ := id I'.loc
    have hkL := fk.2.1
    have haL := fa.2.1
    refine ksk_end_ (h₀ := Att.noObjs s'.heap) (L := X.env.locals) (m := m) (news := (Att.ledger s'.heap X.env.locals kS).filter fun p => p.1 ≠ a) (kz := kz) (e := e) (Att.fr_all hm) (fun p hp => ?_) hka (fun p hp => ?_) (fun p hp => ?_) hi' hlen h64 fun h' tk out c F' N' ko => ?_
    · rcases List.mem_append.mp hp with hp | hp
      · obtain ⟨b, o⟩ := p
        obtain ⟨n1, n2, q⟩ := Att.mem_ledger.mp (List.mem_filter.mp hp).1
        exact ⟨q, n1, Att.noObjs_get _ _⟩
      · rcases List.mem_cons.mp hp with z | z
        · rw [z]; exact ⟨hk', hkL, Att.noObjs_get _ _⟩
        · rw [List.mem_singleton.mp z]; exact ⟨ha', haL, Att.noObjs_get _ _⟩
    · obtain ⟨b, o⟩ := p
      exact (Att.mem_ledger.mp (List.mem_filter.mp hp).1).2.1
    · have := (List.mem_filter.mp hp).2
      simpa using this
    · obtain ⟨ps, p1, p2, p3⟩ := out_vals r ko
      have hout := N' (a, seqObj "list" out c) (.head _)
      refine h ps _ p1 p2 (I'.filled (tk := tk) fa fk hm F'.ns (fun b o n1 n2 n3 q => (N' (b, o) (.tail _ (List.mem_filter.mpr ⟨Att.mem_ledger.mpr ⟨n1, n2, q⟩, by simpa using n3⟩))).1) hout.1 ?_ p3)
      · have e5 := p1.length_eq
        rw [List.length_map, e5, List.length_zip, sizeLine_eq]
        omega
end
end L2

set_option maxHeartbeats 4000000
namespace L2
open PySem PySem.Spec PyProof.Rows
section
variable {X : Cx} {pins : List (Addr × Obj)} {σ : St} {H : Hp} {s : Shared}
variable {x : Str} {N' : List Str} {js : List (Option Nat)} {scope : Scope} {cl : List (Str × Addr)} {qual name : Str} {f c' : Addr} {params : Arguments} {body : Expr} {pm ctv : Value} {oc : Obj} {fs : Array Value} {tq : Tok} {t : TE}
theorem sk_sorted {l : Addr} {xs : List V} {kz : List Int} {Q : VK} (I : Inv X pins σ H s) (hl : SqL X.K H l xs) (hlen : kz.length = xs.length) (h64 : xs.length < 64)
    (B : LamScope X x N' js scope cl) (hd : X.A.handled = none) (hr : X.A.depth < recursionLimit) (hpin : (f, PySem.W.kla_obj name qual params body scope cl pm c' ctv) ∈ X.pn ++ pins) (hc : H c' = some (.frz oc (.own 0))) (hf : oc.data = .fields fs) (hv : fs[1]? = some (.str qual tq))
    (hbind : ∀ pm cd ct u, bindArgs (PySem.W.kla_fn name qual params body scope cl pm cd ct) ⟨[u], []⟩ = pure [(x, u)]) (he : ∀ s0, PE (lamX X X.A.in1.in1 (x :: N') qual scope cl f (.ref c') s0 H) body t)
    (turn : ∀ (i : Nat) (v : V) (k : Int), xs[i]? = some v → kz[i]? = some k → t (some v :: seen js σ) H fun w H' => w = .int k ∧ H' = H)
    (h : ∀ (ps : List (Int × V)) D, ps.Perm (kz.zip xs) → ps.Pairwise (fun p q => p.1 ≤ q.1) → H D = none → Q (.ref D) (upd H D (.lst (ps.map Prod.snd)))) :
    wpAny (model X.prog X.w) X.A (call (.builtin "sorted") [.ref l] [(Str.ofString "key", .ref f)]) (EP X pins σ Q) X.xe s := by
  obtain ⟨vs, r, ⟨ol, n, e0, e1, e2, e3⟩, _⟩ := I.list hl
  have hvl := r.length
  have hL : s.heap.IsList l vs.toArray := ⟨ol, e0, e1, n, e3⟩
  refine call_function_entry_kw kind_sorted plain_sorted entry_sorted (ksk_s1 _ _) ?_
  unfold Builtin.«sorted»
  refine wpAny_bind (m := checkCount "sorted" 1 1 _) (wpAny_pure ?_)
  refine wpAny_bind (collect_list hL ?_ (by rw [sizeLine_eq]; omega))
  refine wpAny_bind (wpAny_newList ?_ (by rw [sizeLine_eq]; omega))
  have hsz : ((s.heap.push (seqObj "list" #[] 0)).update s.heap.objs.size (Obj.mapSeq (· ++ vs.toArray))).objs.size = s.heap.objs.size + 1 := by
    rw [Heap.size_update, size_push']
  have hoL : (((s.heap.push (seqObj "list" #[] 0)).update s.heap.objs.size (Obj.mapSeq (· ++ vs.toArray))).push (seqObj "list" vs.toArray 0)).get? (s.heap.objs.size + 1) = some (seqObj "list" vs.toArray 0) := by
    rw [← hsz]; exact Heap.get?_push_size _ rfl
  have keep : ∀ b o, s.heap.get? b = some o → (((s.heap.push (seqObj "list" #[] 0)).update s.heap.objs.size (Obj.mapSeq (· ++ vs.toArray))).push (seqObj "list" vs.toArray 0)).get? b = some o := fun b o q => by
    have hlt : b < s.heap.objs.size := Heap.lt_size q
    rw [Heap.get?_push_ne _ _ _ (by rw [hsz]; exact Nat.ne_of_lt (Nat.lt_succ_of_lt hlt)), Heap.get?_update_ne _ _ _ _ (Nat.ne_of_lt hlt), Heap.get?_push_ne _ _ _ (Nat.ne_of_lt hlt)]
    exact q
  have hs3 : (((s.heap.push (seqObj "list" #[] 0)).update s.heap.objs.size (Obj.mapSeq (· ++ vs.toArray))).push (seqObj "list" vs.toArray 0)).objs.size = s.heap.objs.size + 2 := by rw [size_push', hsz]
  show wpAny _ _ _ _ _ { s with heap := ((s.heap.push (seqObj "list" #[] 0)).update s.heap.objs.size (Obj.mapSeq (· ++ vs.toArray))).push (seqObj "list" vs.toArray 0) }
  rw [hsz]
  generalize ((s.heap.push (seqObj "list" #[] 0)).update s.heap.objs.size (Obj.mapSeq (· ++ vs.toArray))).push (seqObj "list" vs.toArray 0) = G at hoL keep hs3 ⊢
  refine wpAny_bind (wpAny_holding (wpAny_call_entry_kw PyProof.Rows.slot_list_sort ⟨_, hoL, rfl⟩ PyProof.Rows.entry_list_sort ?body (ksk_l1 _ _)))
  case body =>
    show wpAny (model X.prog X.w) X.A.in1.in1 (Builtin.«list.sort» ⟨[.ref (s.heap.objs.size + 1)], [(Str.ofString "key", .ref f)]⟩) _ _ _
    rw [ksk_t1]
    have s1 := Heap.SameBut.update G (s.heap.objs.size + 1) (Obj.mapSeq fun _ => (#[] : Array Value))
    obtain ⟨e1, ho1⟩ : ∃ e1, (G.update (s.heap.objs.size + 1) (Obj.mapSeq fun _ => (#[] : Array Value))).get? (s.heap.objs.size + 1) = some (seqObj "list" #[] e1) := ⟨_, get?_update_seq hoL fun _ => #[]⟩
    have hkS : ((G.update (s.heap.objs.size + 1) (Obj.mapSeq fun _ => (#[] : Array Value))).push (seqObj "tuple" vs.toArray 0)).objs.size = s.heap.objs.size + 3 := by rw [size_push', Heap.size_update, hs3]
    unfold ksk_tree
    refine wpAny_bind (listItems_at hoL rfl ?_)
    refine wpAny_bind (listUpdate_at hoL rfl ?_ (by rw [List.size_toArray, sizeLine_eq]; omega) (Nat.zero_le _))
    refine wpAny_bind (seqEpoch_at ho1 rfl ?_)
    refine wpAny_bind (wpAny_newTuple ?_ (by show vs.length ≤ _; rw [sizeLine_eq]; omega))
    refine wpAny_bind (wpAny_newList ?_ (Nat.zero_le _))
    refine wpAny_holding ?_
    show wpAny _ _ (ksk_rest _ _ _ _ _ (.ref ((G.update (s.heap.objs.size + 1) (Obj.mapSeq fun _ => (#[] : Array Value))).push (seqObj "tuple" vs.toArray 0)).objs.size)) _ _ { s with heap := ((G.update (s.heap.objs.size + 1) (Obj.mapSeq fun _ => (#[] : Array Value))).push (seqObj "tuple" vs.toArray 0)).push (seqObj "list" #[] 0) }
    have keep2 : ∀ b o, s.heap.get? b = some o → (((G.update (s.heap.objs.size + 1) (Obj.mapSeq fun _ => (#[] : Array Value))).push (seqObj "tuple" vs.toArray 0)).push (seqObj "list" #[] 0)).get? b = some o := fun b o q =>
      Heap.get?_push_of_some _ (Heap.get?_push_of_some _ ((s1.2 b (Nat.ne_of_lt (Nat.lt_succ_of_lt (Heap.lt_size q)))).trans (keep b o q)))
    have I2 : Inv X pins σ H { s with heap := ((G.update (s.heap.objs.size + 1) (Obj.mapSeq fun _ => (#[] : Array Value))).push (seqObj "tuple" vs.toArray 0)).push (seqObj "list" #[] 0) } := I.kept (t' := s.toks) keep2
    have hk0 : (((G.update (s.heap.objs.size + 1) (Obj.mapSeq fun _ => (#[] : Array Value))).push (seqObj "tuple" vs.toArray 0)).push (seqObj "list" #[] 0)).get? (s.heap.objs.size + 3) = some (seqObj "list" #[] 0) := by
      rw [← hkS]; exact Heap.get?_push_size _ rfl
    have ha0 := Heap.get?_push_of_some (seqObj "list" #[] 0) (Heap.get?_push_of_some (seqObj "tuple" vs.toArray 0) ho1)
    rw [hkS]
    have fr1 : H (s.heap.objs.size + 1) = none := I.hok.fresh (Nat.le_succ _)
    refine sk_rest (a := s.heap.objs.size + 1) (kS := s.heap.objs.size + 3) I2 (I.fpOk (Nat.le_succ _) fr1) (I.fpOk (Nat.le_add_right _ 3) (I.hok.fresh (Nat.le_add_right _ 3))) (Nat.ne_of_gt (Nat.add_lt_add_left (by decide) _)) hk0 ha0 r (hlen.trans hvl) (by omega) B ?_ hd hr hpin hc hf hv hbind he turn fun ps s' p1 p2 I3 => ⟨_, rfl, ?_⟩
    · exact I.ok.frames
    · exact wpAny_pure ⟨_, rfl, ⟨.ref _, _, I3, rfl, h ps _ p1 p2 fr1⟩⟩
/-- sorted(e, key=lambda x: body) -/
def sortW (K : PySem.W.Frag) (P : Addr) (lpos : Pos) (qual : Str) (js : List (Option Nat)) (t : TE) (σ : St) (Q : VK) : VK := fun z H1 => ∃ (l : Addr) (xs : List V) (kz : List Int), z = .ref l ∧ SqL K H1 l xs ∧ xs.length < 64 ∧ kz.length = xs.length ∧ TabS H1 P lpos qual ∧
  ∀ H2, But P H1 H2 → TabS H2 P lpos qual → (∀ (i : Nat) (v : V) (k : Int), xs[i]? = some v → kz[i]? = some k → t (some v :: seen js σ) H2 fun w H' => w = .int k ∧ H' = H2) ∧
    ∀ (ps : List (Int × V)) D, ps.Perm (kz.zip xs) → ps.Pairwise (fun p q => p.1 ≤ q.1) → H2 D = none → Q (.ref D) (upd H2 D (.lst (ps.map Prod.snd)))
def tSortK (K : PySem.W.Frag) (P : Addr) (lpos : Pos) (qual : Str) (js : List (Option Nat)) (ta t : TE) : TE := fun σ H Q => ta σ H (sortW K P lpos qual js t σ Q)
theorem But.seqT {K : PySem.W.Frag} {P a : Addr} {H H' : Hp} {xs : List V} {qs : Array Value} (e : But P H H') (hP : H P = some (.tbl qs)) (h : SqL K H a xs) : SqL K H' a xs := by
  rcases h with (h | ⟨o, h⟩) | h
  · exact .inl (.inl (e _ _ (ne_of h hP (by intro z; cases z)) h))
  · exact .inl (.inr ⟨o, e _ _ (ne_of h hP (by intro z; cases z)) h⟩)
  · exact .inr h
theorem But.tupT {K : PySem.W.Frag} {P a : Addr} {H H' : Hp} {xs : List V} {qs : Array Value} (e : But P H H') (hP : H P = some (.tbl qs)) (h : SqT K H a xs) : SqT K H' a xs := by
  rcases h with (h | ⟨o, h⟩) | h
  · exact .inl (.inl (e _ _ (ne_of h hP (by intro z; cases z)) h))
  · exact .inl (.inr ⟨o, e _ _ (ne_of h hP (by intro z; cases z)) h⟩)
  · exact .inr h
theorem pe_sortK {P c : Addr} {p pos lpos kpos : Pos} {e : Expr} {ta : TE} (hg : Gl X "sorted") (hm : X.mg "sorted" = none) (hv : bootBuiltins "sorted" = some (.builtin "sorted")) (Bm : BMod X.mg X.base) (hC : PySem.W.codeHdIn X.K c P = true) (hcode : X.env.code = .ref c) (hd : X.A.handled = none) (hr : X.A.depth < recursionLimit)
    (B : LamScope X x N' js scope cl) (hdef : defaultsOf params X.env = ([], [])) (hbind : ∀ pm cd ct u, bindArgs (PySem.W.kla_fn "<lambda>" (X.env.qual ++ "<lambda>") params body scope cl pm cd ct) ⟨[u], []⟩ = pure [(x, u)]) (ha : PE X e ta)
    (he : ∀ f c' s0 H0, PE (lamX X X.A.in1.in1 (x :: N') (X.env.qual ++ "<lambda>") scope cl f (.ref c') s0 H0) body t)
    (hst : starEach [e] X.env = (false, eval e X.env) :: starEach [] X.env := by rfl) :
    PE X (.Call (.Name "sorted" p) [e] [⟨some "key", .Lambda params body scope lpos, kpos⟩] pos) (tSortK X.K P lpos (X.env.qual ++ "<lambda>") js ta t) := by
  intro pins s σ H Q I h
  refine wpAny_Call_Name_kw (ld_blt I hg hm hv ?_)
  refine callWith_kw ?_ (by rw [hst]; rfl) (by rw [hst]; rfl)
  rw [hst]
  show wpAny _ _ (spliced [(false, eval e X.env)]) _ _ s
  refine Calls.spliced_cons (thn (ha pins s σ H _ I h) fun u s1 ⟨z, H1, I1, ru, l, xs, kz, e2, hl, h64, hlen, T, q⟩ => Calls.spliced_nil ?_)
  · subst e2
    cases ru
    show wpAny _ _ (evalAll [(do let v ← eval (.Lambda params body scope lpos) X.env; standAt pos; pure v)]) _ _ s1
    refine wpAny_evalAll_cons (wpAny_bind (lam_make I1 Bm hC hcode T B.clos hdef fun f c' pm ctv oc fs tq H' s' I' bu T' hc hf hvq => wpAny_bind (wpAny_standAt (wpAny_pure ?_))))
    refine wpAny_evalAll_nil ?_
    obtain ⟨q1, q2⟩ := q H' bu T'
    have hlT : SqL X.K H' l xs := by
      obtain ⟨ps0, hP0, _⟩ := T
      exact bu.seqT hP0 hl
    show wpAny _ _ (call (.builtin "sorted") [.ref l] [("key", .ref f)]) _ _ _
    refine thn (sk_sorted I' hlT hlen h64 B hd hr (List.mem_append_right _ (List.mem_append_right _ (List.mem_singleton.mpr rfl))) hc hf hvq hbind (fun s0 => he f c' s0 H') q1 q2) fun w s2 ⟨y, H3, I3, ry, q3⟩ => ?_
    exact ⟨y, H3, I3.unpinned, ry, q3⟩
end
end L2

set_option maxHeartbeats 4000000
namespace PySem
section
variable {prog : Program} {w : World} {A : Around} {R : Result → Shared → Prop} {I : Addr} {fp wr : List Addr} {n : Nat} {P : Nat → Value → Prop} {St : Nat → Heap → Prop} {kw : List (Str × Value)}
/-- max(.., default=d): the loop, where the list is not empty -/
theorem maxD_loop (W : Walks prog w A.in1 I fp wr n P St) (bt : Nat → Nat → Bool) (hcmp : CmpOf prog w A.in1 .Gt P bt) (S : Addr) (hSf : S ∉ fp) :
    ∀ (k j : Nat) (s : Shared) (vb : Value) (c : Nat), n - (j + 1) = k → j + 1 ≤ n → St (j + 1) s.heap → P (argBest bt j) vb →
    s.heap.get? S = some { cls := .type "list", dict := none, data := .seq #[vb, vb] c, slots := #[] } →
    (∀ v h' tk, P (argBest bt (n - 1)) v → (∀ b o, b ∉ wr → b ≠ S → s.heap.get? b = some o → h'.get? b = some o) → R (.ok (.ret v)) { s with heap := h', toks := tk }) →
    codeAny (model prog w) A (.builtin "max.loop" ⟨[.ref I, .none, .ref S], kw⟩) R s := by
  have hSw : S ∉ wr := fun h => hSf (W.sub _ h)
  have hname : (toString "max" ++ toString ".loop" : String) = "max.loop" := by decide
  intro k
  induction k with
  | zero =>
    intro j s vb c hk hj hst hPb hS hR
    have hin : j + 1 = n := by omega
    refine codeAny_builtin F.entry_max_loop ?_
    rw [Around.under_plainId F.plain_max_loop _]
    show wpAny _ A.in1 (seqItems? (.ref S) >>= _) _ _ s
    refine wpAny_bind (wpAny_seqItems hS rfl ?_)
    show wpAny _ A.in1 (tryCatch (pyNext (.ref I)) _ >>= _) _ _ s
    refine wpAny_bind (wpAny_tryCatch (W.done s _ _ (hin ▸ hst) fun h' tk hk' => ?_))
    have hS' := hk' S _ hSw hS
    show wpAny _ A.in1 (updateSeq S (fun _ => #[]) >>= _) _ _ _
    refine wpAny_bind ?_
    refine wpAny_updateSeq hS' rfl (wpAny_bind (wpAny_letGo (wpAny_pure ?_)))
    refine hR vb _ tk (by rw [← hin]; exact hPb) fun b o hbw hbS e => (Heap.get?_update_other _ _ (Ne.symm hbS)).trans (hk' b o hbw e)
  | succ k ih =>
    intro j s vb c hk hj hst hPb hS hR
    have hlt : j + 1 < n := by omega
    refine codeAny_builtin F.entry_max_loop ?_
    rw [Around.under_plainId F.plain_max_loop _]
    show wpAny _ A.in1 (seqItems? (.ref S) >>= _) _ _ s
    refine wpAny_bind (wpAny_seqItems hS rfl ?_)
    show wpAny _ A.in1 (tryCatch (pyNext (.ref I)) _ >>= _) _ _ s
    refine wpAny_bind (wpAny_tryCatch (W.item (j + 1) s _ _ hlt hst fun v h' tk hP hst' hk' => ?_))
    have hS' := hk' S _ hSw hS
    show wpAny _ A.in1 (tryCatch (holding [v, v] (richCompare .Gt v vb >>= _)) _ >>= _) _ _ _
    refine wpAny_bind (wpAny_tryCatch (wpAny_holding (wpAny_bind (hcmp (j + 1) (argBest bt j) v vb _ _ _ hP hPb ?_))))
    refine wpAny_bind (wpAny_holding (wpAny_truthy_bool ?_))
    refine wpAny_bind (wpAny_letGo (wpAny_pure ?_))
    cases hb : bt (j + 1) (argBest bt j) with
    | true =>
      simp only [if_true]
      refine wpAny_bind ?_
      refine wpAny_updateSeq hS' rfl (wpAny_bind (wpAny_letGo ?_))
      rw [hname]
      refine wpAny_pure ⟨plainId_quiet F.plain_max_loop _, ih (j + 1) _ v _ (by omega) hlt (W.frame _ _ _ hst' fun b hbf o e => ?_) (by simp only [argBest, hb, if_true]; exact hP) (Heap.get?_update_self _ hS' rfl)
        fun v' h'' tk'' hP' hk'' => ?_⟩
      · exact (Heap.get?_update_other _ _ (fun h : S = b => hSf (by rw [h]; exact hbf))).trans e
      · exact hR v' h'' tk'' hP' fun b o hbw hbS e => hk'' b o hbw hbS ((Heap.get?_update_other _ _ (Ne.symm hbS)).trans (hk' b o hbw e))
    | false =>
      simp only [Bool.false_eq_true, if_false]
      refine wpAny_bind (wpAny_letGo ?_)
      rw [hname]
      refine wpAny_pure ⟨plainId_quiet F.plain_max_loop _, ih (j + 1) _ vb c (by omega) hlt hst' (by simp only [argBest, hb, Bool.false_eq_true, if_false]; exact hPb) hS' fun v' h'' tk'' hP' hk'' => ?_⟩
      exact hR v' h'' tk'' hP' fun b o hbw hbS e => hk'' b o hbw hbS (hk' b o hbw e)
theorem maxD_first (W : Walks prog w A.in1 I fp wr n P St) (bt : Nat → Nat → Bool) (hcmp : CmpOf prog w A.in1 .Gt P bt) (S : Addr) (hSf : S ∉ fp) (hn : 0 < n) {s : Shared} {c : Nat} (hst : St 0 s.heap)
    (hS : s.heap.get? S = some { cls := .type "list", dict := none, data := .seq #[] c, slots := #[] })
    (hR : ∀ v h' tk, P (argBest bt (n - 1)) v → (∀ b o, b ∉ wr → b ≠ S → s.heap.get? b = some o → h'.get? b = some o) → R (.ok (.ret v)) { s with heap := h', toks := tk }) :
    codeAny (model prog w) A (.builtin "max.loop" ⟨[.ref I, .none, .ref S], kw⟩) R s := by
  have hSw : S ∉ wr := fun h => hSf (W.sub _ h)
  have hname : (toString "max" ++ toString ".loop" : String) = "max.loop" := by decide
  refine codeAny_builtin F.entry_max_loop ?_
  rw [Around.under_plainId F.plain_max_loop _]
  show wpAny _ A.in1 (seqItems? (.ref S) >>= _) _ _ s
  refine wpAny_bind (wpAny_seqItems hS rfl ?_)
  show wpAny _ A.in1 (tryCatch (pyNext (.ref I)) _ >>= _) _ _ s
  refine wpAny_bind (wpAny_tryCatch (W.item 0 s _ _ hn hst fun v h' tk hP hst' hk' => ?_))
  have hS' := hk' S _ hSw hS
  show wpAny _ A.in1 (updateSeq S (fun _ => #[v, v]) >>= _) _ _ _
  refine wpAny_bind ?_
  refine wpAny_updateSeq hS' rfl ?_
  rw [hname]
  refine wpAny_pure ⟨plainId_quiet F.plain_max_loop _, maxD_loop W bt hcmp S hSf _ 0 _ v _ rfl hn (W.frame _ _ _ hst' fun b hbf o e => ?_) hP (Heap.get?_update_self _ hS' rfl) fun v' h'' tk'' hP' hk'' => ?_⟩
  · exact (Heap.get?_update_other _ _ (fun h : S = b => hSf (by rw [h]; exact hbf))).trans e
  · exact hR v' h'' tk'' hP' fun b o hbw hbS e => hk'' b o hbw hbS ((Heap.get?_update_other _ _ (Ne.symm hbS)).trans (hk' b o hbw e))
end
theorem maxD_args (a d : Value) : argsOk "max" ⟨[a], [(Str.ofString "default", d)]⟩ := by unfold argsOk; kernel_rfl
section
variable {prog : Program} {w : World} {A : Around} {E : Value → Shared → Prop} {s : Shared} {l : Addr} {xs : Array (Int × Tok)}
theorem maxD_ints {d : Value} {Q : Value → Shared → Prop} (hh : A.handled = none) (hl : s.heap.IsList l (intItems xs)) (hne : 0 < xs.size)
    (h : ∀ v h' tk, (intItems xs)[argBest (fun i j => decide (numAt xs i > numAt xs j)) (xs.size - 1)]? = some v → (∀ b o, s.heap.get? b = some o → h'.get? b = some o) → Q v { s with heap := h', toks := tk }) :
    wpAny (model prog w) A (call (.builtin "max") [.ref l] [(Str.ofString "default", d)]) Q E s := by
  have hname : (toString "max" ++ toString ".loop" : String) = "max.loop" := by decide
  refine PyProof.Rows.kmk_tree F.kind_max F.plain_max F.entry_max (maxD_args _ _) ?_
  show wpAny _ A.in1 (Builtin.Builtins.bindParams "max" ["key", "default"] 0 ⟨[], [(Str.ofString "default", d)]⟩ >>= _) _ _ s
  refine wpAny_bind (wpAny_of_eq (show Builtin.Builtins.bindParams "max" ["key", "default"] 0 ⟨[], [(Str.ofString "default", d)]⟩ = pure [none, some d] from rfl) ?_)
  refine wpAny_bind (wpAny_pure ?_)
  refine wpAny_bind (iter_intList hl fun s₂ e st hfp hlI => ?_)
  subst e
  refine wpAny_bind (wpAny_newObj_type ?_)
  rw [hname]
  have W := Walks.list (prog := prog) (w := w) (A := A.in1.in1) hh s.heap.objs.size l hlI (intItems xs)
  have hSf : (s.heap.push { cls := .type "list_iterator", data := .fields #[.ref l, .int 0 0] }).objs.size ∉ [s.heap.objs.size, l] := fun hm => Nat.lt_irrefl _ (hfp _ hm)
  refine wpAny_pure ⟨plainId_quiet F.plain_max_loop _, maxD_first (A := A) (W.of_in1) _ (CmpOf.ints_gt (numAt xs) (fun _ _ => intItems_at)) _ hSf (by simpa [intItems] using hne) (W.frame 0 _ _ st fun b _ o e => Heap.get?_push_of_some _ e) (Heap.get?_push_size _ rfl) fun v h' tk hP hk => ?_⟩
  refine h v h' tk (by simpa [intItems] using hP) fun b o e => hk b o (fun hm => ?_) (fun hb => ?_) (Heap.get?_push_of_some _ (Heap.get?_push_of_some _ e))
  · rw [List.mem_singleton.mp hm] at e
    exact absurd (Heap.lt_size e) (Nat.lt_irrefl _)
  · rw [hb] at e
    have := Heap.lt_size e
    rw [Heap.size_push] at this
    exact absurd this (Nat.not_lt_of_le (Nat.le_succ _))
end
end PySem
namespace L2
open PySem PySem.Spec PyProof.Rows
section
variable {X : Cx}
theorem ints_of {ns : List Int} : ∀ {us : List Value}, Vals (ns.map V.int) us → IntsAre us ns := by
  induction ns with
  | nil => intro us h; cases h; exact .nil
  | cons n ns ih =>
    intro us h
    cases h with
    | cons r t =>
      obtain ⟨tk, rfl⟩ := r
      exact .cons n tk (ih t)
/-- max(e, default=d), the list not empty -/
def tMaxD (K : PySem.W.Frag) (ta td : TE) : TE := fun σ H Q => ta σ H fun z H1 => td σ H1 fun _ H2 => ∃ (l : Addr) (ns : List Int), z = .ref l ∧ SqL K H2 l (ns.map V.int) ∧ 0 < ns.length ∧ ∀ M, M ∈ ns → (∀ a ∈ ns, a ≤ M) → Q (.int M) H2
theorem pe_maxD {p pos kpos : Pos} {e d : Expr} {ta td : TE} (hg : Gl X "max") (hm : X.mg "max" = none) (hv : bootBuiltins "max" = some (.builtin "max")) (hd : X.A.handled = none) (ha : PE X e ta) (hb : PE X d td)
    (hst : starEach [e] X.env = (false, eval e X.env) :: starEach [] X.env := by rfl) :
    PE X (.Call (.Name "max" p) [e] [⟨some "default", d, kpos⟩] pos) (tMaxD X.K ta td) := by
  intro pins s σ H Q I h
  refine wpAny_Call_Name_kw (ld_blt I hg hm hv ?_)
  refine callWith_kw ?_ (by rw [hst]; rfl) (by rw [hst]; rfl)
  rw [hst]
  show wpAny _ _ (spliced [(false, eval e X.env)]) _ _ s
  refine Calls.spliced_cons (thn (ha pins s σ H _ I h) fun u s1 ⟨z, H1, I1, ru, q1⟩ => Calls.spliced_nil ?_)
  show wpAny _ _ (evalAll [(do let v ← eval d X.env; standAt pos; pure v)]) _ _ s1
  refine wpAny_evalAll_cons (wpAny_bind (thn (hb pins s1 σ H1 _ I1 q1) fun u2 s2 ⟨z2, H2, I2, ru2, l, ns, ez, hl, hne, q⟩ => wpAny_bind (wpAny_standAt (wpAny_pure (wpAny_evalAll_nil ?_)))))
  subst ez
  cases ru
  obtain ⟨vs, r, ⟨ol, n, e0, e1, e2, e3⟩, _⟩ := I2.list hl
  have hi := ints_of r
  obtain ⟨xs, ex⟩ := hi.allInts.items
  have hns : ns = xs.toList.map (·.1) := by rw [← hi.numsOf, ← nums_intItems, ← ex]
  have hsz : 0 < xs.size := by
    have h3 := hne; rw [hns, List.length_map, Array.length_toList] at h3; exact h3
  have hL : s2.heap.IsList l (intItems xs) := by rw [← ex]; exact ⟨ol, e0, e1, n, e3⟩
  show wpAny _ _ (call (.builtin "max") [.ref l] [("default", u2)]) _ _ _
  refine maxD_ints hd hL hsz fun v h' tk hv hk => ?_
  obtain ⟨t, rfl⟩ := intItems_at hv
  obtain ⟨h1, h2⟩ := argBest_gt (numAt xs) (xs.size - 1)
  refine ⟨.int _, H2, I2.kept hk, ⟨t, rfl⟩, q _ ?_ fun a ha => ?_⟩
  · rw [hns, numAt_eq]; exact getD_mem (by rw [List.length_map, Array.length_toList]; omega)
  · rw [hns] at ha
    obtain ⟨j, hj, rfl⟩ := mem_getD ha
    rw [List.length_map, Array.length_toList] at hj
    rw [← numAt_eq]; exact h2 j (by omega)
end
end L2

set_option maxHeartbeats 4000000
namespace L2
open PySem PySem.Spec PyProof.Rows
/-! ### the head of a law one of whose defs makes a lambda: that def's table is tracked -/
theorem law_callT {Pg : Program} {w : World} {K : PySem.W.Frag} {mg mb : Str → Option Value} {CX : CXT} {k : Nat} {fa a c P : Addr} {fd : FuncData} {x : Str} {sp : Sp} {s₁ : Shared} {vs : List Value} {ns : List Int}
    (KX : K.In s₁.heap) (hns : s₁.heap.Ns mainGlobals mg) (hb : s₁.heap.Ns builtinsNs mb) (hbb : ∀ x : Str, x ≠ "__name__" → mb x = bootBuiltins x) (hlim : s₁.heap.NoLimit) (hg : s₁.gens = #[])
    (ha : s₁.heap.get? a = some { cls := .type "list", data := .seq vs.toArray }) (hi : IntsAre vs ns) (hl : ns.length ≤ sizeLine) (hr : Room k callerA)
    (hKP : K.lookup P = none) (hC : PySem.W.codeHdIn K c P = true) (hPt : s₁.heap.get? P = some (PySem.W.tabObj #[])) (hbm : BMod mg s₁.heap)
    (F : ∀ base : Heap, K.In base → base.Ns mainGlobals mg → BMod mg base → FnOk Pg w K mg base CX k fa fd [x] sp) (hbind : ∀ (s : Shared) (u : Value), BindsTo s fd ⟨[u], []⟩ [(x, u)])
    (hsp : ∀ H : Hp, H P = some (.tbl #[]) → SqL K H a (ns.map V.int) → sp [.ref a] H (fun v _ => v = .bl true) fun _ _ _ => False)
    (hCX : ∀ H e s', CX [] H s₁ (fun _ _ _ => False) e s' → False) :
    codeAny (model Pg w) callerA (.call (.ref fa) ⟨[.ref a], []⟩) (fun r s' => r = .ok (.ret (.bool true)) ∧ OldK s₁.heap s'.heap ∧ s'.os = s₁.os ∧ AllBare s'.gens) s₁ := by
  have rv := vals_ints hi
  have lenV := hi.length
  have haP : a ≠ P := fun z => by rw [z, hPt] at ha; cases ha
  have core : ∀ H : Hp, H P = some (.tbl #[]) → (∀ b, b ≠ P → H b = none ∨ ∃ o xs, H b = some (.frz o (.lst xs))) → SqL K H a (ns.map V.int) → HOk Pg w H s₁.heap → (∀ b, H b ≠ none → b = a ∨ b = P) → (H a ≠ none → K.lookup a = none) →
      codeAny (model Pg w) callerA (.call (.ref fa) ⟨[.ref a], []⟩) (fun r s' => r = .ok (.ret (.bool true)) ∧ OldK s₁.heap s'.heap ∧ s'.os = s₁.os ∧ AllBare s'.gens) s₁ := by
    intro H hHP hO hS hok hA hK
    have base_of : ∀ {b : Addr} {o : Obj}, s₁.heap.get? b = some o → H b = none → (hidT s₁.heap H).get? b = some o := fun e n => hidT_get e n
    have noA : ∀ {b : Addr} {o : Obj}, s₁.heap.get? b = some o → (∀ its n, o.data ≠ .seq its n) → (∀ fs, o.data ≠ .fields fs) → H b = none := fun {b o} e d1 d2 => by
      cases q : H b with
      | none => rfl
      | some u =>
        rcases hA b (by rw [q]; simp) with e' | e'
        · subst e'
          rw [ha] at e; cases e
          exact absurd rfl (d1 _ _)
        · subst e'
          rw [hPt] at e; cases e
          exact absurd rfl (d2 _)
    have nsK : ∀ {b : Addr} {m : Str → Option Value}, s₁.heap.Ns b m → (hidT s₁.heap H).Ns b m := fun {b m} ⟨o, es, ep, e, d, r⟩ => ⟨o, es, ep, base_of e (noA e (fun _ _ z => by rw [d] at z; cases z) fun _ z => by rw [d] at z; cases z), d, r⟩
    have hKb : K.In (hidT s₁.heap H) := fun b o e => base_of (KX b o e) (by
      cases q : H b with
      | none => rfl
      | some u =>
        rcases hA b (by rw [q]; simp) with e' | e'
        · subst e'
          rw [hK (by rw [q]; simp)] at e; cases e
        · subst e'
          rw [hKP] at e; cases e)
    have hBb : BMod mg (hidT s₁.heap H) := by
      obtain ⟨bm, ob, b1, b2, b3, b4, b5, b6⟩ := hbm
      exact ⟨bm, ob, b1, b2, base_of b3 (noA b3 (fun _ _ z => by rw [b6] at z; cases z) fun _ z => by rw [b6] at z; cases z), b4, b5, b6⟩
    have hM : Mod K mg (hidT s₁.heap H) := ⟨hKb, nsK hns, ⟨mb, nsK hb, hbb⟩, let ⟨mc, h1, h2⟩ := hlim; ⟨mc, nsK h1, h2⟩⟩
    have e0 : Env0 Pg w K mg (hidT s₁.heap H) callerA [] s₁ H := ⟨rfl, hM, fun b o e => of_hidT e, Nat.le_of_eq (hidT_size _ _), trivial, fun b hb => absurd (show b ∈ ([] : List Addr) from hb) (by simp), hok, .of_eq hg⟩
    refine codeAny_mono ((F _ hKb (nsK hns) hBb).run callerA [] s₁ H ⟨[.ref a], []⟩ [.ref a] [.ref a] _ _ hr e0 (hbind s₁ (.ref a)) (.cons rfl .nil) (hsp H hHP hS)) fun r s' h => ?_
    cases r with
    | error e => exact (hCX H e s' h).elim
    | ok fl =>
      cases fl with
      | next => exact False.elim h
      | brk => exact False.elim h
      | cont => exact False.elim h
      | ret u =>
        obtain ⟨v, H', os, bare, un, hok', r', q⟩ := h
        have q' : v = .bl true := q
        subst q'
        obtain rfl : u = Value.bool true := r'
        have kept : ∀ b o, b ≠ P → s₁.heap.get? b = some o → s'.heap.get? b = some o := fun b o hbP e => by
          cases q : H b with
          | none => exact un.keep b o e q (by intro z; exact absurd (show b ∈ ([] : List Addr) from z) (by simp)) (by simp)
          | some u =>
            rcases hO b hbP with z | ⟨ob, xs, z⟩
            · rw [q] at z; cases z
            · have z2 := un.frzs b ob _ z
              obtain ⟨e1, _⟩ := hok b _ z
              obtain ⟨e2, _⟩ := hok' b _ z2
              rw [e] at e1; cases e1
              exact e2
        obtain ⟨more, hm⟩ := un.tbls P #[] hHP
        have hP' : s'.heap.get? P = some (PySem.W.tabObj (#[] ++ more)) := hok' P _ hm
        refine ⟨rfl, ⟨fun b o e => ?_, fun b o e => ?_⟩, os, bare⟩
        · by_cases hbP : b = P
          · subst hbP
            rw [hPt] at e; cases e
            exact .inr (.inl ⟨((PySem.W.codeHd_of_K KX hC).tab hPt).isCodeTable, rfl, #[], more, rfl, hP'⟩)
          · exact .inl (kept b o hbP e)
        · by_cases hbP : b = P
          · subst hbP; exact ⟨_, hP'⟩
          · exact ⟨o, kept b o hbP e⟩
  cases hk : K.lookup a with
  | some o =>
    have e := KX a o hk
    rw [ha] at e
    cases e
    refine core (fun b => if b = P then some (.tbl #[]) else none) (if_pos rfl) (fun b hb => .inl (if_neg hb)) (.inr ⟨_, vs.toArray, _, hk, rfl, rfl, rfl, by rw [List.size_toArray, lenV]; exact hl, by simpa using rv⟩) (fun b u z => ?_) (fun b z => ?_) fun z => absurd (if_neg haP) z
    · by_cases hb : b = P
      · have z' := (if_pos hb).symm.trans z
        cases z'
        subst hb
        exact hPt
      · have z' := (if_neg hb).symm.trans z
        cases z'
    · by_cases hb : b = P
      · exact .inr hb
      · exact absurd (if_neg hb) z
  | none =>
    refine core (fun b => if b = P then some (.tbl #[]) else if b = a then some (.frz { cls := .type "list", data := .seq vs.toArray } (.lst (ns.map V.int))) else none) (if_pos rfl) (fun b hb => ?_) (.inl (.inr ⟨{ cls := .type "list", data := .seq vs.toArray }, (if_neg haP).trans (if_pos rfl)⟩)) (fun b u z => ?_) (fun b z => ?_) fun _ => hk
    · by_cases hb2 : b = a
      · exact .inr ⟨_, _, (if_neg hb).trans (if_pos hb2)⟩
      · exact .inl ((if_neg hb).trans (if_neg hb2))
    · by_cases hb : b = P
      · have z' := (if_pos hb).symm.trans z
        cases z'
        subst hb
        exact hPt
      · have z1 := (if_neg hb).symm.trans z
        by_cases hb2 : b = a
        · have z' := (if_pos hb2).symm.trans z1
          cases z'
          subst hb2
          exact ⟨ha, by rw [List.length_map]; exact hl, vs, _, rv, ha⟩
        · have z' := (if_neg hb2).symm.trans z1
          cases z'
    · by_cases hb : b = P
      · exact .inr hb
      · by_cases hb2 : b = a
        · exact .inl hb2
        · exact absurd ((if_neg hb).trans (if_neg hb2)) z
/-- the goal that k_head leaves, from the law's promise -/
theorem walk_ofT {l : PySem.W.OpenLaw} {n k : Nat} {q : Program} {loose : List Str} {XP : (Str → Option Value) → Heap → Prop} {YP : World → Heap → Prop} {d : DefRec} {K : Params → PySem.W.Frag} {CX : World → CXT} {sp : World → Sp} {x : Str} {P : Addr}
    (hn : l.most = some n) (hn2 : n ≤ sizeLine) (hdf : d.params.defaults = []) (hr : Room k callerA)
    (hY : ∀ (w : World) (h : Heap), YP w h → (K w.params).In h ∧ h.get? P = some (PySem.W.tabObj #[]))
    (F : ∀ (w : World) (mg : Str → Option Value) (fa : Addr) (h : Heap), (K w.params).In h → h.Ns mainGlobals mg → mg d.name = some (.ref fa) →
      ∃ (fd : FuncData) (c : Addr), (K w.params).lookup P = none ∧ PySem.W.codeHdIn (K w.params) c P = true ∧ (∀ (s : Shared) (u : Value), BindsTo s fd ⟨[u], []⟩ [(x, u)]) ∧
        ∀ base : Heap, (K w.params).In base → base.Ns mainGlobals mg → BMod mg base → FnOk l.prog w (K w.params) mg base (CX w) k fa fd [x] (sp w))
    (hsp : ∀ (w : World) (H : Hp) (a : Addr) (ns : List Int), ns.length ≤ n → H P = some (.tbl #[]) → SqL (K w.params) H a (ns.map V.int) → sp w [.ref a] H (fun v _ => v = .bl true) fun _ _ _ => False)
    (hCX : ∀ (w : World) (H : Hp) (s : Shared) (e : Value) (s' : Shared), CX w [] H s (fun _ _ _ => False) e s' → False) :
    PySem.W.WalkO q loose XP YP l.row.toRowW d [] (fun f vs => PySem.call f vs) := by
  refine Att.attach_call hn hdf fun w s₀ s₁ mg mb fa o pm cd doc a vs ns G Y ho hd hcd hmg hobj hints hlen hg => ?_
  obtain ⟨KX, hPt⟩ := hY w _ Y
  obtain ⟨fd, c, h1, h2, hb, hF⟩ := F w mg fa _ KX G.T.g hmg
  exact law_callT KX G.T.g G.T.b G.T.builtins G.T.nolimit hg hobj hints (Nat.le_trans hlen hn2) hr h1 h2 hPt G.T.bmain hF hb (fun H hP hS => hsp w H a ns hlen hP hS) fun H e s' => hCX w H s₁ e s'
/-- the code object of a def of the top -/
def CodeOf (K : PySem.W.Frag) (mg : Str → Option Value) (x : Str) (c : Addr) : Prop := ∃ (f : Addr) (o : Obj) (fd : FuncData), mg x = some (.ref f) ∧ K.lookup f = some o ∧ o.data = .func fd ∧ fd.code = .ref c
/-- THE RULE for a def whose body makes a lambda and lets no exception out -/
theorem DefIn.okT {P : Program} {w : World} {K : PySem.W.Frag} {mg : Str → Option Value} {base : Heap} {x : Str} {st : Stmt} {N ps : List Str} {k : Nat} {sp : Sp} {c : Addr} (F : DefIn K mg x st ps) (U : CodeOf K mg x c) (S : FnScope N ps (defScope st)) (len : ∀ vs H Q E, sp vs H Q E → vs.length = ps.length)
    (hbody : ∀ (f : Addr) (A : Around) (outer : List Env) (s : Shared) (H : Hp) (vs : List V) (Q : VK) (E : XK), Room k (A.deeper (envOfC x (defScope st) s.heap.objs.size f (.ref c))) → sp vs H Q E →
      ∃ t, PSs (cxOf CX0 P w K mg base N x (defScope st) f (.ref c) A outer s H E).nox (defBody st) t ∧ t { nx := fun _ H' => Q .non H', rt := Q } (start N vs) H) : OkD P w K mg base CX0 (k + 1) x ps sp := by
  obtain ⟨f, fd, h1, h2, h3⟩ := F
  obtain ⟨oc, od, kV, doc, pm, an, cdv, ct, osl, rfl, lk, hcd⟩ := h2.ex
  obtain ⟨f', o', fd', u1, u2, u3, u4⟩ := U
  rw [h1] at u1; cases u1
  rw [lk] at u2; cases u2
  cases u3
  have u5 : cdv = .ref c := u4
  subst u5
  refine ⟨f, _, h1, h2.kp, h3, fn_of lk hcd S len fun A outer s H vs Q E hr hsp => ?_⟩
  obtain ⟨t, h, q⟩ := hbody f A outer s H vs Q E hr hsp
  exact ⟨t, h.nox, q⟩
end L2

set_option maxHeartbeats 4000000
namespace L2
open PySem PySem.Spec PyProof.Rows
/-! ### methods of a dict whose keys are things of the heap -/
section
variable {X : Cx} {κ : Type} [DecidableEq κ] {knd : HeapKind X.prog X.w κ} {o e : Expr} {es : List Expr} {to : TE} {t : TA} {name : Str} {apos cpos : Pos} {id : String} {r : V → List V → Hp → VK → Prop}
theorem dic_is {pins : List (Addr × Obj)} {σ : St} {H : Hp} {s : Shared} {d : Addr} {es : List (Ent κ)} (I : Inv X pins σ H s) (h : H d = some (DO knd d es)) : s.TypeIs (.ref d) "dict" ∧ ∀ a, Value.ref d = .ref a → ∃ ob, s.heap.get? a = some ob ∧ ob.dict = none := by
  obtain ⟨⟨_, _, _, o, _, _, _, e, ex, _⟩, _, _⟩ := I.hok d _ h
  refine ⟨⟨o, e, ex.1⟩, fun a z => ?_⟩
  cases z
  exact ⟨o, e, ex.2.1⟩
def tDM (knd : HeapKind X.prog X.w κ) (r : V → List V → Hp → VK → Prop) (to : TE) (t : TA) : TE := fun σ H Q => to σ H fun x H1 => (∃ d es, x = .ref d ∧ H1 d = some (DO knd d es)) ∧ t σ H1 fun xs H2 => r x xs H2 Q
def tDM0 (knd : HeapKind X.prog X.w κ) (r : V → List V → Hp → VK → Prop) (to : TE) : TE := fun σ H Q => to σ H fun x H1 => (∃ d es, x = .ref d ∧ H1 d = some (DO knd d es)) ∧ r x [] H1 Q
theorem pe_dm0 (slot : Slot "dict" name id) (hty : typeOf (.builtin id) = pure (.type "method_descriptor")) (hm : MtR X id r) (ho : PE X o to)
    (hbase : attributeBase o name X.env (eval o X.env) = eval o X.env := by rfl) (hline : (apos.endLine == cpos.line) = true := by rfl) : PE X (.Call (.Attribute o name apos) [] [] cpos) (tDM0 knd r to) := by
  intro pins s σ H Q I h
  refine wpAny_Call_method0_late hbase hline (thn (ho pins s σ H _ I h) fun v s1 ⟨x, H1, I1, r1, ty, q1⟩ => ?_)
  obtain ⟨d, es, rfl, hd⟩ := ty
  cases r1
  obtain ⟨h1, h2⟩ := dic_is I1 hd
  exact ⟨"dict", id, F.plainAttrs_dict, slot, hty, h1, h2, Calls.callWith_builtin rfl (PySem.evalArgs_none (hm pins s1 σ H1 (.ref d) [] _ [] Q I1 rfl .nil q1))⟩
theorem pe_dm (slot : Slot "dict" name id) (hty : typeOf (.builtin id) = pure (.type "method_descriptor")) (hm : MtR X id r) (ho : PE X o to) (ha : PA X (e :: es) t)
    (hbase : attributeBase o name X.env (eval o X.env) = eval o X.env := by rfl)
    (hfew : ((backTo cpos (starEach (e :: es) X.env)).all (fun x => !x.1) && (backToKw cpos (keywordEach [] X.env)).all (fun x => x.1.isSome)
      && decide ((e :: es).length + ([] : List Keyword).length + (if ([] : List Keyword).isEmpty then 0 else 1) < 30)) = true := by rfl)
    (hline : (apos.endLine == cpos.line) = true := by rfl) (hs : starEach (e :: es) X.env = (false, eval e X.env) :: starEach es X.env := by rfl) (hplain : (backTo cpos (starEach es X.env)).any (·.1) = false := by rfl) :
    PE X (.Call (.Attribute o name apos) (e :: es) [] cpos) (tDM knd r to t) := by
  intro pins s σ H Q I h
  refine wpAny_Call_method_late hbase hfew hline rfl (thn (ho pins s σ H _ I h) fun v s1 ⟨x, H1, I1, r1, ty, q1⟩ => ?_)
  obtain ⟨d, des, rfl, hd⟩ := ty
  cases r1
  obtain ⟨h1, h2⟩ := dic_is I1 hd
  refine ⟨"dict", id, F.plainAttrs_dict, slot, hty, h1, h2, ?_⟩
  have hA := ha cpos pins s1 σ H1 _ I1 q1
  rw [hs] at hA ⊢
  refine Calls.callWith_builtin (by show (false || (backTo cpos (starEach es X.env)).any (·.1)) = false; rw [hplain] <;> rfl) (Calls.evalArgs_plain ?_)
  exact thn hA fun us s2 ⟨vs, H2, I2, r2, q2⟩ => hm pins s2 σ H2 (.ref d) vs _ us Q I2 rfl r2 q2
end
/-! ### keys by an injective naming -/
section
variable {α κ : Type} [DecidableEq α] [DecidableEq κ]
theorem dget_map {key : α → κ} (inj : ∀ a b, key a = key b → a = b) {ad : α → Addr} {v : α → V} {m : α} : ∀ (ks : List α), dget (ks.map fun x => (key x, ad x, v x)) (key m) = if m ∈ ks then some (v m) else none
  | [] => rfl
  | k :: ks => by
    have ih := dget_map inj (ad := ad) (v := v) (m := m) ks
    unfold dget at ih ⊢
    rw [List.map_cons, List.find?_cons]
    by_cases h : k = m
    · subst h
      simp
    · have h2 : ¬ key k = key m := fun z => h (inj _ _ z)
      have h3 : ¬ m = k := fun z => h z.symm
      simp only [h2, decide_false, List.mem_cons, h3, false_or]
      exact ih
end
/-- d[key], d's keys tuples of ints, the context told apart -/
def rDI (P : Program) (w : World) (K : PySem.W.Frag) : R2 := fun x y H Q => ∃ d p k es u, x = .ref d ∧ y = .ref p ∧ H d = some (DO (tupleKind (PySem.intKind P w)) d es) ∧ isKI K H k p ∧ (∀ e ∈ es, isKI K H e.1 e.2.1) ∧ dget es k = some u ∧ Q u H
theorem ix_dI {X : Cx} {P : Program} {w : World} {K : PySem.W.Frag} (hu : X.A.units + 1 < cLine) (h1 : X.prog = P := by rfl) (h2 : X.w = w := by rfl) (h3 : X.K = K := by rfl) : IxR X (rDI P w K) := by
  subst h1 h2 h3
  exact ix_dict (keyI hu)
end L2

set_option maxHeartbeats 4000000
namespace L2
open PySem PySem.Spec PyProof.Rows
section
variable {X : Cx}
/-- xs.insert(i, y), 0 ≤ i ≤ len(xs) -/
def rInsert : V → List V → Hp → VK → Prop := fun x vs H Q => ∃ l xs y, ∃ i : Nat, x = .ref l ∧ vs = [.int (i : Nat), y] ∧ H l = some (.lst xs) ∧ i ≤ xs.length ∧ xs.length < 1000 ∧ Q .non (upd H l (.lst (xs.take i ++ y :: xs.drop i)))
theorem mt_insert : MtM X "list.insert" rInsert := by
  intro pins s σ H x vs v us Q I rx rv h
  obtain ⟨l, xs, y, i, rfl, rfl, hH, hi, hz, q⟩ := h
  cases rx
  obtain ⟨u1, u2, rfl, r1, r2⟩ := rv.two
  obtain ⟨t, rfl⟩ := r1
  obtain ⟨z, its, n, r, hl, e⟩ := I.lstM hH
  have hlen := r.length
  have fit : ¬(!Builtin.List.listFitsIndex (i : Int)) = true := by
    have : Builtin.List.listFitsIndex (i : Int) = true := by
      unfold Builtin.List.listFitsIndex
      rw [decide_eq_true (by omega), decide_eq_true (by omega)]; rfl
    rw [this]; decide
  have s1000 : (1000 : Nat) < sizeLine := by decide
  have hsz : its.toArray.size ≤ sizeLine := by rw [List.size_toArray]; omega
  generalize hj : (i : Int) = j at fit
  have hm := PySem.AutoSeq1.list_insert_list_int_val_1 l its.toArray n j t u2 fit hsz
  refine call_meets F.slot_list_insert ⟨_, e, rfl⟩ F.entry_list_insert (F.args_list_insert_3 _ _ _) hm ⟨e, ?_⟩
  subst hj
  refine ⟨.non, _, I.lset (its' := its.take i ++ u2 :: its.drop i) hH e ?_ ((r.take i).append (.cons r2 (r.drop i))) ?_, rfl, q⟩
  · have hk : (if (i : Int) < 0 then ((i : Int) + (its.toArray.size : Int)).toNat else min (i : Int).toNat its.toArray.size) = i := by
      rw [if_neg (by omega), Int.toNat_natCast, List.size_toArray]
      exact Nat.min_eq_left (by omega)
    show (its.toArray.extract 0 (if (i : Int) < 0 then ((i : Int) + (its.toArray.size : Int)).toNat else min (i : Int).toNat its.toArray.size)).push u2 ++ its.toArray.extract (if (i : Int) < 0 then ((i : Int) + (its.toArray.size : Int)).toNat else min (i : Int).toNat its.toArray.size) = _
    rw [hk]
    apply Array.ext'
    simp [List.take_drop]
    rw [List.take_of_length_le (by omega)]
  · rw [List.length_append, List.length_cons, List.length_take, List.length_drop]
    omega
end
end L2

namespace Rope
/-! moments put in order, each once -/
def placeM : List M → M → Nat
  | [], _ => 0
  | t :: ts, m => if lessM t m = true then placeM ts m + 1 else 0
def insM : List M → M → List M
  | [], m => [m]
  | t :: ts, m => if lessM t m = true then t :: insM ts m else if t = m then t :: ts else m :: t :: ts
theorem place_le : ∀ (ts : List M) (m : M), placeM ts m ≤ ts.length
  | [], _ => Nat.le_refl _
  | t :: ts, m => by
    unfold placeM
    split
    · have := place_le ts m; simp; omega
    · omega
theorem place_less : ∀ (ts : List M) (m : M) (j : Nat) (x : M), j < placeM ts m → ts[j]? = some x → lessM x m = true
  | [], _, j, _, h, _ => by simp [placeM] at h
  | t :: ts, m, 0, x, h, e => by
    unfold placeM at h
    split at h
    · simp at e; subst e; assumption
    · omega
  | t :: ts, m, j + 1, x, h, e => by
    unfold placeM at h
    split at h
    · exact place_less ts m j x (by omega) (by simpa using e)
    · omega
theorem place_stop : ∀ (ts : List M) (m x : M), ts[placeM ts m]? = some x → lessM x m = false
  | [], _, _, h => by simp at h
  | t :: ts, m, x, h => by
    unfold placeM at h
    split at h
    · exact place_stop ts m x (by simpa using h)
    · rename_i c
      simp at h; subst h
      simpa using c
theorem ins_put : ∀ (ts : List M) (m : M), insM ts m = if ts[placeM ts m]? = some m then ts else ts.take (placeM ts m) ++ m :: ts.drop (placeM ts m)
  | [], m => by simp [insM, placeM]
  | t :: ts, m => by
    unfold insM placeM
    by_cases c : lessM t m = true
    · rw [if_pos c, if_pos c, ins_put ts m]
      simp only [List.getElem?_cons_succ, List.take_succ_cons, List.drop_succ_cons]
      split <;> rfl
    · rw [if_neg c, if_neg c]
      simp
def SS (ts : List M) : Prop := ts.Pairwise (fun a b => vl 40 a < vl 40 b)
theorem ins_mem : ∀ (ts : List M) (m x : M), x ∈ insM ts m ↔ x = m ∨ x ∈ ts
  | [], m, x => by simp [insM]
  | t :: ts, m, x => by
    unfold insM
    have ih := ins_mem ts m x
    split
    · rw [List.mem_cons, ih, List.mem_cons]
      constructor
      · rintro (h | h | h)
        · exact .inr (.inl h)
        · exact .inl h
        · exact .inr (.inr h)
      · rintro (h | h | h)
        · exact .inr (.inl h)
        · exact .inl h
        · exact .inr (.inr h)
    · split
      · rename_i e
        subst e
        rw [List.mem_cons]
        constructor
        · exact .inr
        · rintro (h | h)
          · exact .inl h
          · exact h
      · rw [List.mem_cons]
theorem ins_ss : ∀ (ts : List M) (m : M), SS ts → (∀ t ∈ ts, Bd t) → Bd m → SS (insM ts m)
  | [], m, _, _, _ => by simp [insM, SS]
  | t :: ts, m, h, hb, hm => by
    unfold insM
    have h' := List.pairwise_cons.mp h
    have bt := hb t (by simp)
    have hl := vl_less (N := 40) bt.e hm.e
    split
    · rename_i c
      rw [hl] at c
      have c' := of_decide_eq_true c
      refine List.pairwise_cons.mpr ⟨fun x hx => ?_, ins_ss ts m h'.2 (fun t ht => hb t (by simp [ht])) hm⟩
      rcases (ins_mem ts m x).mp hx with rfl | hx
      · exact c'
      · exact h'.1 x hx
    · rename_i c
      rw [hl] at c
      have c' : ¬ vl 40 t < vl 40 m := fun z => c (decide_eq_true z)
      split
      · exact h
      · rename_i e
        have lt : vl 40 m < vl 40 t := by
          rcases Int.lt_trichotomy (vl 40 m) (vl 40 t) with z | z | z
          · exact z
          · exact absurd (bd_eq hm bt z).symm e
          · exact absurd z c'
        refine List.pairwise_cons.mpr ⟨fun x hx => ?_, h⟩
        rcases List.mem_cons.mp hx with rfl | hx
        · exact lt
        · exact Int.lt_trans lt (h'.1 x hx)
theorem ss_uniq : ∀ (xs ys : List M), SS xs → SS ys → (∀ m, m ∈ xs ↔ m ∈ ys) → xs = ys
  | [], ys, _, _, h => by
    cases ys with
    | nil => rfl
    | cons b u => exact absurd ((h b).mpr (by simp)) (by simp)
  | a :: t, ys, hx, hy, h => by
    cases ys with
    | nil => exact absurd ((h a).mp (by simp)) (by simp)
    | cons b u =>
      have hx' := List.pairwise_cons.mp hx
      have hy' := List.pairwise_cons.mp hy
      have e : a = b := by
        refine Classical.byContradiction fun n => ?_
        have h1 : a ∈ u := by
          rcases List.mem_cons.mp ((h a).mp (by simp)) with z | z
          · exact absurd z n
          · exact z
        have h2 : b ∈ t := by
          rcases List.mem_cons.mp ((h b).mpr (by simp)) with z | z
          · exact absurd z.symm n
          · exact z
        have := hy'.1 a h1
        have := hx'.1 b h2
        omega
      subst e
      congr 1
      refine ss_uniq t u hx'.2 hy'.2 fun m => ⟨fun hm => ?_, fun hm => ?_⟩
      · rcases List.mem_cons.mp ((h m).mp (by simp [hm])) with z | z
        · have := hx'.1 m hm; rw [z] at this; exact absurd this (Int.lt_irrefl _)
        · exact z
      · rcases List.mem_cons.mp ((h m).mpr (by simp [hm])) with z | z
        · have := hy'.1 m hm; rw [z] at this; exact absurd this (Int.lt_irrefl _)
        · exact z
/-- sorted moments, each once -/
theorem ss_of {N : Nat} {zs : List M} (hs : zs.Pairwise (fun m n => vl N m ≤ vl N n)) (hn : zs.Nodup) (hN : ∀ m ∈ zs, m.2 ≤ N) (h4 : N ≤ 40) (hb : ∀ m ∈ zs, Bd m) : SS zs := by
  have h := List.Pairwise.and hs hn
  refine List.Pairwise.imp_of_mem (R := fun a b => vl N a ≤ vl N b ∧ a ≠ b) (fun {a b} ha hb' hab => ?_) h
  have e1 := vl_up (hN a ha) h4
  have e2 := vl_up (hN b hb') h4
  have p := pow_pos (40 - N)
  have h1 := Int.mul_le_mul_of_nonneg_right hab.1 (Int.le_of_lt p)
  rw [← e1, ← e2] at h1
  rcases Int.lt_or_eq_of_le h1 with z | z
  · exact z
  · exact absurd (bd_eq (hb a ha) (hb b hb') z) hab.2
def timesM (ms : List M) : List M := ms.foldl insM [(0, 0)]
theorem times_spec : ∀ (ms ts : List M), SS ts → (∀ t ∈ ts, Bd t) → (∀ m ∈ ms, Bd m) → SS (ms.foldl insM ts) ∧ (∀ x, x ∈ ms.foldl insM ts ↔ x ∈ ts ∨ x ∈ ms) ∧ (ms.foldl insM ts).length ≤ ts.length + ms.length
  | [], ts, h, _, _ => ⟨h, by simp, by simp⟩
  | m :: ms, ts, h, hb, hm => by
    rw [List.foldl_cons]
    have bm := hm m (by simp)
    have hl : (insM ts m).length ≤ ts.length + 1 := by
      rw [ins_put]
      split
      · omega
      · rw [List.length_append, List.length_cons, List.length_take, List.length_drop]; omega
    obtain ⟨h1, h2, h3⟩ := times_spec ms (insM ts m) (ins_ss ts m h hb bm) (fun t ht => ((ins_mem ts m t).mp ht).elim (fun z => z ▸ bm) (hb t)) fun x hx => hm x (by simp [hx])
    refine ⟨h1, fun x => ?_, by simp; omega⟩
    rw [h2 x, ins_mem, List.mem_cons]
    constructor
    · rintro ((h | h) | h)
      · exact .inr (.inl h)
      · exact .inl h
      · exact .inr (.inr h)
    · rintro (h | h | h)
      · exact .inl (.inr h)
      · exact .inl (.inl h)
      · exact .inr h
end Rope

namespace Rope
/-! what can be measured, by plain functions -/
abbrev Row := List Tau × List M
def ropesI (n i : Nat) : List Tau := ((i : Int) - 1, none) :: (List.range (n + 1 - i)).map fun (j : Nat) => ((i : Int) - 1, some ((i : Int) - 1 + (j : Int)))
def ropesM (n : Nat) : List Tau := (List.range (n + 1)).flatMap (ropesI n)
def lastM (ms : List M) : M := ms.getD (ms.length - 1) (0, 0)
section
variable {κ : Type} [DecidableEq κ] (ky : List M → κ)
def addL (acc : List Row) (p : Row) : List Row := if acc.any (fun q => decide (ky q.2 = ky p.2)) = true then acc else acc ++ [p]
def tryL (w : Row) (acc : List Row) (r : Tau) : List Row := match outR w.2 r with
  | none => acc
  | some m => if m ∈ w.2 then acc else addL ky acc (w.1 ++ [r], w.2 ++ [m])
def longW (n : Nat) (acc : List Row) (w : Row) : List Row := (ropesM n).foldl (tryL ky w) acc
def longM (n : Nat) (ws : List Row) : List Row := ws.foldl (longW ky n) []
def foundL (acc : List (M × List Tau)) (w : Row) : List (M × List Tau) := if acc.any (fun q => decide (q.1 = lastM w.2)) = true then acc else acc ++ [(lastM w.2, w.1)]
def levM : Nat → List Row
  | 0 => [([], [])]
  | n + 1 => longM ky n (levM n)
def fpM : Nat → List (M × List Tau)
  | 0 => []
  | n + 1 => (levM ky (n + 1)).foldl foundL (fpM n)
end
/-! the law's -/
def newsI (row : List M) (i : Nat) : List M := addM (row.getD i (0, 0)) (1, 0) :: ((List.range (row.length - i)).filterMap fun j => if lessM (gapM (row.getD i (0, 0)) (row.getD (i + j) (0, 0))) (1, 0) = true then some (meanM (row.getD i (0, 0)) (row.getD (i + j) (0, 0))) else none)
def newsM (row : List M) : List M := (List.range row.length).flatMap (newsI row)
def putR (more : Bool) (row : List M) (st : List M × List (List M)) (m : M) : List M × List (List M) :=
  (insM st.1 m, if (!(st.2.any fun g => decide (g = insM row m)) && more) = true then st.2 ++ [insM row m] else st.2)
def rowR (more : Bool) (st : List M × List (List M)) (row : List M) : List M × List (List M) := (newsM row).foldl (putR more row) st
def reachM (most : Nat) : Nat → List M × List (List M)
  | 0 => ([], [[(0, 0)]])
  | t + 1 => (reachM most t).2.foldl (rowR (decide (t + 1 < most))) ((reachM most t).1, [])
end Rope

set_option maxHeartbeats 4000000
namespace L2
open PySem PySem.Spec PyProof.Rows Rope
/-! ### x not in xs, the things told by their meaning -/
theorem pow2_inj {a b : Nat} (h : (2 : Int) ^ a = 2 ^ b) : a = b := by
  rcases Nat.lt_trichotomy a b with z | z | z
  · exact absurd h (Int.ne_of_lt (Int.pow_lt_pow_of_lt (by decide) z))
  · exact z
  · exact absurd h.symm (Int.ne_of_lt (Int.pow_lt_pow_of_lt (by decide) z))
theorem moV_inj {m n : M} (h : [V.int m.1, V.int (2 ^ m.2)] = [V.int n.1, V.int (2 ^ n.2)]) : m = n := by
  injection h with h1 h2
  injection h2 with h2 _
  injection h1 with h1
  injection h2 with h2
  exact Prod.ext h1 (pow2_inj h2)
theorem moV_eqD {K : PySem.W.Frag} {H : Hp} {u v : V} {m n : M} (hu : Mo K H u m) (hv : Mo K H v n) (k : Nat) : RcD K H (EqD K H (k + 1)) u v (decide (m = n)) := by
  obtain ⟨p, rfl, hp⟩ := hu
  obtain ⟨q, rfl, hq⟩ := hv
  refine .inl ⟨p, q, _, _, rfl, rfl, hp, hq, fun j => if j = 0 then m.1 == n.1 else (2 : Int) ^ m.2 == 2 ^ n.2, fun j x y h1 h2 => ?_, ?_⟩
  · match j, h1, h2 with
    | 0, h1, h2 => cases h1; cases h2; exact .inl ⟨rfl, rfl, rfl⟩
    | 1, h1, h2 => cases h1; cases h2; exact .inl ⟨rfl, rfl, rfl⟩
  · show _ = (([0, 1] : List Nat).all (fun j => if j = 0 then m.1 == n.1 else (2 : Int) ^ m.2 == 2 ^ n.2) && true)
    by_cases h : m = n
    · subst h; simp
    · rw [decide_eq_false h]
      by_cases h1 : m.1 = n.1
      · have h2 : ¬ (2 : Int) ^ m.2 = 2 ^ n.2 := fun z => h (Prod.ext h1 (pow2_inj z))
        simp [h2]
      · simp [h1]
/-- a list of moments -/
def RwM (K : PySem.W.Frag) (H : Hp) (v : V) (ms : List M) : Prop := ∃ b us, v = .ref b ∧ H b = some (.lst us) ∧ Paired (Mo K H) us ms
theorem rw_eqD {K : PySem.W.Frag} {H : Hp} {u v : V} {ms ns : List M} (hu : RwM K H u ms) (hv : RwM K H v ns) : EqD K H 8 u v (decide (ms = ns)) := by
  obtain ⟨p, us, rfl, hp, hus⟩ := hu
  obtain ⟨q, vs, rfl, hq, hvs⟩ := hv
  have l1 := pr_len hus
  have l2 := pr_len hvs
  refine .inr (.inr (.inr (.inr ⟨p, q, us, vs, rfl, rfl, SqL.of hp, SqL.of hq, fun j => decide (ms[j]? = ns[j]?), fun j x y h1 h2 => ?_, ?_⟩)))
  · obtain ⟨m, hm, mx⟩ := pr_get' hus h1
    obtain ⟨n, hn, ny⟩ := pr_get' hvs h2
    show EqD K H 7 x y (decide (ms[j]? = ns[j]?))
    rw [hm, hn]
    have e : decide (some m = some n) = decide (m = n) := by
      by_cases h : m = n
      · subst h; simp
      · simp [h]
    rw [e]
    exact .inr (.inr (.inr (moV_eqD mx ny 5)))
  · rw [l1, l2]
    by_cases h : ms = ns
    · subst h; simp
    · rw [decide_eq_false h]
      by_cases hl : ms.length = ns.length
      · have : ((List.range (min ms.length ns.length)).all fun j => decide (ms[j]? = ns[j]?)) = false := by
          refine Bool.eq_false_iff.mpr fun z => h (List.ext_getElem? fun j => ?_)
          rw [List.all_eq_true] at z
          by_cases hj : j < ms.length
          · exact of_decide_eq_true (z j (List.mem_range.mpr (by omega)))
          · rw [List.getElem?_eq_none (by omega), List.getElem?_eq_none (by omega)]
        rw [this]; rfl
      · have : (ms.length == ns.length) = false := by simpa using hl
        rw [this, Bool.and_false]
section
variable {X : Cx} {α : Type} [DecidableEq α]
def rInR (K : PySem.W.Frag) (R : Hp → V → α → Prop) : R2 := fun x y H Q => ∃ p xs gs g, y = .ref p ∧ SqL K H p xs ∧ Paired (R H) xs gs ∧ R H x g ∧ Q (.bl (!gs.any fun a => decide (a = g))) H
theorem any_inR {R : V → α → Prop} {g : α} {eb : V → Bool} (he : ∀ z a, R z a → eb z = decide (a = g)) : ∀ {xs : List V} {gs : List α}, Paired R xs gs → xs.any eb = gs.any fun a => decide (a = g)
  | _, _, .nil => rfl
  | _, _, .cons r t => by rw [List.any_cons, List.any_cons, any_inR he t, he _ _ r]
theorem any_yes {g : α} {gs : List α} (h : g ∈ gs) : (gs.any fun a => decide (a = g)) = true := List.any_eq_true.mpr ⟨g, h, decide_eq_true rfl⟩
theorem any_no {g : α} {gs : List α} (h : ¬ g ∈ gs) : (gs.any fun a => decide (a = g)) = false := by
  rw [List.any_eq_false]
  intro x hx z
  exact h (of_decide_eq_true z ▸ hx)
theorem op_notInR {R : Hp → V → α → Prop} (hu : X.A.units + 64 < cLine) (fn : ∀ pins σ H s, Inv X pins σ H s → ∀ z a b, R H z a → R H z b → a = b) (eq : ∀ H z x a b, R H z a → R H x b → EqD X.K H 8 z x (decide (a = b))) : OpR X (compareOp .NotIn) (rInR X.K R) := by
  intro pins s σ H x y v u Q I rx ry h
  obtain ⟨p, xs, gs, g, rfl, hq, hp, hx, q⟩ := h
  have f := fn pins σ H s I
  classical
  let eb : V → Bool := fun z => decide (∃ a, R H z a ∧ a = g)
  have he : ∀ z a, R H z a → eb z = decide (a = g) := fun z a hz => by
    by_cases e : a = g
    · rw [decide_eq_true e]
      exact decide_eq_true ⟨a, hz, e⟩
    · rw [decide_eq_false e]
      refine decide_eq_false ?_
      rintro ⟨b, hb, hbg⟩
      exact e ((f z a b hz hb).trans hbg)
  refine op_notInD hu pins s σ H x (.ref p) v u Q I rx ry ⟨p, xs, eb, rfl, hq, fun z hz => ?_, ?_⟩
  · obtain ⟨i, hi⟩ := List.mem_iff_getElem?.mp hz
    obtain ⟨a, _, ha⟩ := pr_get' hp hi
    rw [he z a ha]
    exact eq H z x a g ha hx
  · have e := any_inR he hp
    simp only [if_true]
    rw [e]
    exact q
theorem op_notInM (hu : X.A.units + 64 < cLine) : OpR X (compareOp .NotIn) (rInR X.K (fun H => Mo X.K H)) :=
  op_notInR hu (fun pins σ H s I z a b ha hb => by
    obtain ⟨p, rfl, hp⟩ := ha
    obtain ⟨q, e, hq⟩ := hb
    cases e
    exact moV_inj (I.tuple_inj hp hq)) fun H z x a b ha hb => .inr (.inr (.inr (moV_eqD ha hb 6)))
theorem mo_fun {pins : List (Addr × Obj)} {σ : St} {H : Hp} {s : Shared} (I : Inv X pins σ H s) : ∀ {us : List V} {ms ns : List M}, Paired (Mo X.K H) us ms → Paired (Mo X.K H) us ns → ms = ns
  | _, _, _, .nil, .nil => rfl
  | _, _, _, .cons r t, .cons r' t' => by
    rw [mo_fun I t t']
    obtain ⟨p, rfl, hp⟩ := r
    obtain ⟨q, e, hq⟩ := r'
    cases e
    rw [moV_inj (I.tuple_inj hp hq)]
theorem op_notInRw (hu : X.A.units + 64 < cLine) : OpR X (compareOp .NotIn) (rInR X.K (fun H => RwM X.K H)) :=
  op_notInR hu (fun pins σ H s I z a b ha hb => by
    obtain ⟨p, us, rfl, hp, ha⟩ := ha
    obtain ⟨q, us', e, hq, hb⟩ := hb
    cases e
    rw [hp] at hq
    cases hq
    exact mo_fun I ha hb) fun H z x a b ha hb => rw_eqD ha hb
end
theorem for_rng {lo : Int} {n n' : Nat} {g : TG} {tb : TS} {D : Ends} {σ : St} {H : Hp} (hn : n' = n) (Pv : Nat → St → Hp → Prop) (h0 : Pv 0 σ H)
    (hs : ∀ i σ H, i < n → Pv i σ H → g (.int (lo + i)) σ H fun σ2 H2 => tb { D with nx := Pv (i + 1), ct := Pv (i + 1), bk := D.nx } σ2 H2) (hd : ∀ σ H, Pv n σ H → D.nx σ H) :
    ∃ W : Nat → Nat → St → Hp → Prop, (∃ m, W 0 m σ H) ∧ ∀ i m σ H, W i m σ H →
      ((Itr lo n').stop i H ∧ D.nx σ H) ∨ ((Itr lo n').go i H ∧ ∃ N : St → Hp → Prop, (∀ σ' H', N σ' H' → ∃ m', m' < m ∧ W (i + 1) m' σ' H') ∧ ∀ x H', (Itr lo n').yld i H x H' → g x σ H' fun σ2 H2 => tb { D with nx := N, ct := N, bk := D.nx } σ2 H2) := by
  subst hn
  exact for_range Pv h0 hs hd
theorem comp_rng {lo : Int} {n n' : Nat} {D : Addr} {g : TG} {tt : TT} {te : TE} {Z : Hp → Prop} {σ0 : St} {H0 : Hp} (hn : n' = n) (Pv : Nat → St → Hp → Prop) (h0 : Pv 0 σ0 H0)
    (hs : ∀ i σ H, i < n → Pv i σ H → g (.int (lo + i)) σ H fun σ2 H2 => tt σ2 H2 fun b H3 => if b = true then te σ2 H3 fun v H4 => ∃ zs, H4 D = some (.lst zs) ∧ zs.length < sizeLine ∧ Pv (i + 1) σ2 (upd H4 D (.lst (zs ++ [v]))) else Pv (i + 1) σ2 H3)
    (hd : ∀ σ H, Pv n σ H → Z H) :
    ∃ W : Nat → Nat → St → Hp → Prop, (∃ m, W 0 m σ0 H0) ∧
      ∀ i m σ' H', W i m σ' H' → ((Itr lo n').stop i H' ∧ Z H') ∨ ((Itr lo n').go i H' ∧ ∃ Nn : St → Hp → Prop, (∀ σ'' H'', Nn σ'' H'' → ∃ m', m' < m ∧ W (i + 1) m' σ'' H'') ∧
        ∀ x H'', (Itr lo n').yld i H' x H'' → g x σ' H'' fun σ2 H2 => tt σ2 H2 fun b H3 => if b = true then te σ2 H3 fun v H4 => ∃ zs, H4 D = some (.lst zs) ∧ zs.length < sizeLine ∧ Nn σ2 (upd H4 D (.lst (zs ++ [v]))) else Nn σ2 H3) := by
  subst hn
  exact comp_range Pv h0 hs hd
theorem growB {H H' : Hp} {d : Addr} {f : Heap → Prop} (hd : H d = some (.ext f)) (e : But d H H') : Grow H H' := ⟨fun b xs z => by
  rcases z with z | ⟨o, z⟩
  · exact .inl (e _ _ (ne_of z hd (by intro y; cases y)) z)
  · exact .inr ⟨o, e _ _ (ne_of z hd (by intro y; cases y)) z⟩⟩
end L2

set_option maxHeartbeats 4000000
namespace PySem
/-! ### tuples of tuples of ints as keys -/
section
variable {prog : Program} {w : World}
abbrev ik (prog : Program) (w : World) := intKind prog w
def It2 (prog : Program) (w : World) (h : Heap) (ks : List Int) (v : Value) : Prop := ∃ b, v = .ref b ∧ IsTupleKey (intKind prog w) h ks b
def IsTup2 (prog : Program) (w : World) (h : Heap) (kss : List (List Int)) (a : Addr) : Prop := ∃ o items n, h.get? a = some o ∧ o.cls = .type "tuple" ∧ o.data = .seq items n ∧ Paired (It2 prog w h) kss items.toList
variable {A : Around} {E : Value → Shared → Prop} {s : Shared}
theorem IsTup2.typeIs {kss : List (List Int)} {a : Addr} (x : IsTup2 prog w s.heap kss a) : s.TypeIs (.ref a) "tuple" := let ⟨o, _, _, ho, hc, _⟩ := x; ⟨o, ho, hc⟩
theorem it2_inj {h : Heap} : ∀ {x y : List (List Int)} {vs : List Value}, Paired (It2 prog w h) x vs → Paired (It2 prog w h) y vs → x = y
  | _, _, _, .nil, .nil => rfl
  | _, _, _, .cons ⟨b, e, h1⟩ t, .cons ⟨b', e', h2⟩ t' => by
    subst e
    cases e'
    rw [h1.inj h2, it2_inj t t']
theorem IsTup2.inj {h : Heap} {a : Addr} {x y : List (List Int)} (hx : IsTup2 prog w h x a) (hy : IsTup2 prog w h y a) : x = y := by
  obtain ⟨o, items, n, ho, _, hd, hi⟩ := hx
  obtain ⟨o', items', n', ho', _, hd', hi'⟩ := hy
  obtain rfl : o = o' := Option.some.inj (ho.symm.trans ho')
  rw [hd] at hd'
  injection hd' with h1 _
  subst h1
  exact it2_inj hi hi'
theorem it2_mono {h h' : Heap} (k : ∀ ks b, IsTupleKey (intKind prog w) h ks b → IsTupleKey (intKind prog w) h' ks b) : ∀ {x : List (List Int)} {vs : List Value}, Paired (It2 prog w h) x vs → Paired (It2 prog w h') x vs
  | _, _, .nil => .nil
  | _, _, .cons ⟨b, e, h1⟩ t => .cons ⟨b, e, k _ _ h1⟩ (it2_mono k t)
theorem IsTup2.keeps {h h' : Heap} {ks : List (List Int)} {a d : Addr} {o : Obj} {es ep} (x : IsTup2 prog w h ks a) (ho : h.get? d = some o) (hd : o.data = .dict es ep) (hs : Heap.SameBut d h h') : IsTup2 prog w h' ks a := by
  obtain ⟨o', items, n, ho', hc, hd', hi⟩ := x
  have hne : a ≠ d := by
    rintro rfl
    obtain rfl : o' = o := Option.some.inj (ho'.symm.trans ho)
    rw [hd] at hd'; exact nomatch hd'
  exact ⟨o', items, n, (hs.2 a hne).trans ho', hc, hd', it2_mono (fun _ _ z => z.keeps ho hd hs) hi⟩
def tup2Hash (prog : Program) (w : World) (kss : List (List Int)) : Int := reduceHash (Builtin.Tuple.tupleHashOf (kss.map (tupleKeyHash (intKind prog w))))
def draws2 (kss : List (List Int)) : Nat := (kss.map fun ks => ks.length + 1).sum
theorem hash_tup2 {kss : List (List Int)} {a : Addr} {Q : Int → Shared → Prop} (hu : A.units + 1 < cLine) (hk : IsTup2 prog w s.heap kss a) (h : Q (tup2Hash prog w kss) { s with toks := s.toks + (draws2 kss + 1) }) :
    wpAny (model prog w) A (pyHash (.ref a)) Q E s := by
  have hT := hk.typeIs
  obtain ⟨o, items, n, ho, _, hd, hi⟩ := hk
  unfold pyHash
  first | unfold pyHashByItsType | skip
  first | refine wpAny_bind (wpAny_cRoomFor_or (.inr (by omega)) ?_) | skip
  refine wpAny_bind (wpAny_specialOf hT F.slot_tuple_hash.lookup ?_)
  show wpAny _ _ (if (some (Value.builtin "tuple.__hash__") == some Value.none) = true then _ else _) Q E s
  rw [if_neg (by rw [beq_builtin_none]; exact Bool.false_ne_true)]
  refine wpAny_bind (wpAny_specialOf hT F.slot_tuple_hash.lookup ?_)
  show wpAny _ _ (callSpecialIfBoundUnlessNone? (.ref a) "__hash__" _ >>= _) Q E s
  refine wpAny_bind (wpAny_callSpecialIfBoundUnlessNone?_slot hT F.slot_tuple_hash (wpAny_call_entry F.slot_tuple_hash hT F.entry_tuple_hash ?_ (F.args_tuple_hash_1 _)))
  show wpAny _ _ (Builtin.Tuple.tupleItemsOf (.ref a) >>= _) _ _ s
  refine wpAny_bind (wpAny_tupleItemsOf ho hd ?_)
  refine wpAny_bind ?_
  rw [← Array.forIn_toList]
  refine wpAny_forIn_list _
    (fun rest (b : Array Int) s' => ∃ done left, kss = done ++ left ∧ Paired (It2 prog w s.heap) left rest ∧ b.toList = done.map (tupleKeyHash (intKind prog w)) ∧ s' = { s with toks := s.toks + draws2 done })
    _ ?_ ?_ _ _ ⟨[], kss, rfl, hi, rfl, rfl⟩
  · rintro x rest b s' ⟨done, left, rfl, hl, hb, rfl⟩
    cases hl with
    | @cons k _ ks' _ h1 hl' =>
      obtain ⟨c, rfl, hc⟩ := h1
      refine wpAny_bind (wpAny_pyHash_tuple (A := A.in1) (s := { s with toks := s.toks + draws2 done }) hu hc ?_)
      have hd2 : draws2 (done ++ [k]) = draws2 done + (k.length + 1) := by simp [draws2]
      first
        | exact wpAny_pure ⟨done ++ [k], ks', by simp, hl', by simp [hb], by simp [hd2, Nat.add_assoc]⟩
        | exact wpAny_bind (wpAny_pure (wpAny_pure ⟨done ++ [k], ks', by simp, hl', by simp [hb], by simp [hd2, Nat.add_assoc]⟩))
  · rintro b s' ⟨done, left, rfl, hl, hb, rfl⟩
    cases hl
    rw [List.append_nil] at h
    show wpAny _ _ (retInt (Builtin.Tuple.tupleHashOf b.toList)) _ _ _
    rw [hb]
    refine wpAny_ret_mkInt ?_
    show wpAny _ _ (if (decide (-(2 : Int) ^ 63 ≤ Builtin.Tuple.tupleHashOf (done.map (tupleKeyHash (intKind prog w)))) && decide (Builtin.Tuple.tupleHashOf (done.map (tupleKeyHash (intKind prog w))) < 2 ^ 63)) = true then _ else _) Q E _
    unfold tup2Hash reduceHash at h
    by_cases hr : (decide (-(2 : Int) ^ 63 ≤ Builtin.Tuple.tupleHashOf (done.map (tupleKeyHash (intKind prog w)))) && decide (Builtin.Tuple.tupleHashOf (done.map (tupleKeyHash (intKind prog w))) < 2 ^ 63)) = true
    · rw [if_pos hr]
      rw [if_pos hr] at h
      exact wpAny_pure (by simpa [Nat.add_assoc] using h)
    · rw [if_neg hr]
      rw [if_neg hr] at h
      exact wpAny_bind (wpAny_rule (wpAny_pure (by simpa [Nat.add_assoc] using h)))
theorem eq_tree2 {x y : List (List Int)} {a b : Addr} {P : Fin → Shared → Prop} (hu : A.units < cLine) (hx : IsTup2 prog w s.heap x a) (hy : IsTup2 prog w s.heap y b) (h : P (.done (.ret (.bool (decide (x = y))))) s) :
    wpAny (model prog w) A (Builtin.«tuple.__eq__» ⟨[.ref a, .ref b], []⟩) P E s := by
  have hTb := hy.typeIs
  obtain ⟨oa, xs, na, hoa, _, hda, hia⟩ := hx
  obtain ⟨ob, ys, nb, hob, _, hdb, hib⟩ := hy
  show wpAny _ _ (isInstance (.ref b) (.type "tuple") >>= _) _ _ s
  refine wpAny_bind (wpAny_isInstance hTb isSubtype_tuple_tuple ?_)
  simp only [Bool.not_true, Bool.false_eq_true, if_false]
  refine wpAny_bind (wpAny_tupleItemsOf hoa hda ?_)
  refine wpAny_bind (wpAny_tupleItemsOf hob hdb ?_)
  refine wpAny_bind ?_
  refine wpAny_forIn_list _
    (fun rest r s' => r.1 = none ∧ s' = s ∧ ∃ x' y' xs' ys', rest = List.zip xs' ys' ∧ Paired (It2 prog w s.heap) x' xs' ∧ Paired (It2 prog w s.heap) y' ys' ∧ decide (x' = y') = decide (x = y) ∧ (xs'.length == ys'.length) = (xs.size == ys.size))
    _ ?_ ?_ _ _ ⟨rfl, rfl, x, y, xs.toList, ys.toList, rfl, hia, hib, rfl, by simp⟩
  · rintro ⟨u, v⟩ rest r s' ⟨hr, rfl, x', y', xs', ys', hz, hx', hy', hdec, hlen⟩
    cases hx' with
    | nil => simp at hz
    | @cons k1 u' x'' xs'' h1 hx'' =>
      cases hy' with
      | nil => simp at hz
      | @cons k2 v' y'' ys'' h2 hy'' =>
        simp only [List.zip_cons_cons, List.cons.injEq, Prod.mk.injEq] at hz
        obtain ⟨⟨rfl, rfl⟩, rfl⟩ := hz
        obtain ⟨c1, rfl, g1⟩ := h1
        obtain ⟨c2, rfl, g2⟩ := h2
        refine wpAny_bind (wpAny_eqBool_tuple hu g1 g2 ?_)
        by_cases hk : k1 = k2
        · subst hk
          rw [decide_eq_true rfl]
          simp only [Bool.not_true, Bool.false_eq_true, if_false]
          refine wpAny_pure ⟨rfl, rfl, x'', y'', xs'', ys'', rfl, hx'', hy'', ?_, by simpa using hlen⟩
          rw [← hdec]
          by_cases hxy : x'' = y''
          · simp [hxy]
          · simp [hxy]
        · rw [decide_eq_false hk]
          simp only [Bool.not_false, if_true]
          have hf : decide (x = y) = false := by rw [← hdec]; simp [hk]
          rw [hf] at h
          exact wpAny_bind (wpAny_pure (wpAny_pure (wpAny_pure h)))
  · rintro ⟨r1, r2⟩ s' ⟨hr, rfl, x', y', xs', ys', hz, hx', hy', hdec, hlen⟩
    simp only at hr
    subst hr
    refine wpAny_pure ?_
    have hfin : (xs.size == ys.size) = decide (x = y) := by
      rw [← hdec, ← hlen]
      cases hx' with
      | nil =>
        cases hy' with
        | nil => simp
        | cons _ _ => simp
      | cons _ _ =>
        cases hy' with
        | nil => simp
        | cons _ _ => simp at hz
    show P (.done (.ret (.bool (xs.size == ys.size)))) s'
    rw [hfin]; exact h
theorem eqBool_tup2 {x y : List (List Int)} {a b : Addr} {Q : Bool → Shared → Prop} (hu : A.units + 1 < cLine) (hx : IsTup2 prog w s.heap x a) (hy : IsTup2 prog w s.heap y b) (h : Q (decide (x = y)) s) :
    wpAny (model prog w) A (eqBool (.ref a) (.ref b)) Q E s := by
  unfold eqBool
  try with_reducible refine wpAny_holding ?_
  show wpAny _ _ (if (Value.ref a == Value.ref b) = true then _ else _) Q E s
  by_cases hab : (Value.ref a == Value.ref b) = true
  · rw [if_pos hab]
    have e : a = b := by have := eq_of_beq hab; injection this
    subst e
    obtain rfl := hx.inj hy
    exact wpAny_bind (wpAny_rule (wpAny_pure (by simpa using h)))
  · rw [if_neg hab]
    exact wpAny_bind (wpAny_richCompare_same_room (op := .Eq) hx.typeIs hy.typeIs F.slot_tuple_eq
      (wpAny_call_entry F.slot_tuple_eq hx.typeIs F.entry_tuple_eq (eq_tree2 (A := A.in1) hu hx hy ⟨_, rfl, (fun e => nomatch e), wpAny_truthy_bool h⟩) (F.args_tuple_eq_2 _ _)) (by omega))
theorem quiet_tup {n : Nat} {ks : List Int} {a : Addr} {Q : Bool → Shared → Prop} (hk : IsTupleKey (intKind prog w) s.heap ks a) (h : Q true s) : wpAny (model prog w) A (eqIsQuiet (n + 1) (.ref a)) Q E s := by
  have hT := hk.typeIs
  obtain ⟨o, items, m, ho, _, hd, hi⟩ := hk
  unfold eqIsQuiet
  refine wpAny_bind (wpAny_specialOf hT F.slot_tuple_eq.lookup ?_)
  show wpAny _ _ (isInstance (.ref a) (.type "tuple") >>= _) _ _ s
  refine wpAny_bind (wpAny_isInstance hT isSubtype_tuple_tuple ?_)
  simp only [Bool.not_true, Bool.false_eq_true, if_false]
  refine wpAny_bind (wpAny_seqItems ho hd ?_)
  refine wpAny_bind ?_
  show wpAny _ _ (forIn items _ _) _ _ s
  rw [← Array.forIn_toList]
  refine wpAny_forIn_list _ (fun rest r s' => r.1 = none ∧ s' = s ∧ ∀ v ∈ rest, carriedByValue v = true) _ ?_ ?_ _ _ ⟨rfl, rfl, hi.byValue⟩
  · rintro v rest r s' ⟨hr, rfl, hall⟩
    rw [eqIsQuiet_byValue _ (hall v List.mem_cons_self)]
    refine wpAny_bind (wpAny_pure ?_)
    simp only [Bool.not_true, Bool.false_eq_true, if_false]
    exact wpAny_pure ⟨rfl, rfl, fun u hu' => hall u (List.mem_cons_of_mem _ hu')⟩
  · rintro ⟨r1, r2⟩ s' ⟨hr, rfl, _⟩
    simp only at hr
    subst hr
    exact wpAny_pure h
theorem quiet_tup2 {kss : List (List Int)} {a : Addr} {Q : Bool → Shared → Prop} (hk : IsTup2 prog w s.heap kss a) (h : Q true s) : wpAny (model prog w) A (eqIsQuiet 8 (.ref a)) Q E s := by
  have hT := hk.typeIs
  obtain ⟨o, items, m, ho, _, hd, hi⟩ := hk
  unfold eqIsQuiet
  refine wpAny_bind (wpAny_specialOf hT F.slot_tuple_eq.lookup ?_)
  show wpAny _ _ (isInstance (.ref a) (.type "tuple") >>= _) _ _ s
  refine wpAny_bind (wpAny_isInstance hT isSubtype_tuple_tuple ?_)
  simp only [Bool.not_true, Bool.false_eq_true, if_false]
  refine wpAny_bind (wpAny_seqItems ho hd ?_)
  refine wpAny_bind ?_
  show wpAny _ _ (forIn items _ _) _ _ s
  rw [← Array.forIn_toList]
  refine wpAny_forIn_list _ (fun rest r s' => r.1 = none ∧ s' = s ∧ ∃ left, Paired (It2 prog w s.heap) left rest) _ ?_ ?_ _ _ ⟨rfl, rfl, kss, hi⟩
  · rintro v rest r s' ⟨hr, rfl, left, hl⟩
    cases hl with
    | cons h1 hl' =>
      obtain ⟨c, rfl, hc⟩ := h1
      refine wpAny_bind (quiet_tup (n := 6) hc ?_)
      simp only [Bool.not_true, Bool.false_eq_true, if_false]
      exact wpAny_pure ⟨rfl, rfl, _, hl'⟩
  · rintro ⟨r1, r2⟩ s' ⟨hr, rfl, _⟩
    simp only at hr
    subst hr
    exact wpAny_pure h
def tup2Kind (prog : Program) (w : World) : HeapKind prog w (List (List Int)) where
  is := IsTup2 prog w
  hash := tup2Hash prog w
  draws := fun kss => draws2 kss + 1
  room := fun A => A.units + 1 < cLine
  inj := fun hx hy => hx.inj hy
  keeps := fun x ho hd hs => x.keeps ho hd hs
  pyHash := fun hu hk h => hash_tup2 hu hk h
  eqBool := fun hu hx hy h => eqBool_tup2 hu hx hy h
  quiet := fun hk h => quiet_tup2 hk h
end
end PySem
namespace L2
open PySem PySem.Spec PyProof.Rows
/-- a tuple of tuples of ints -/
def isKII (K : PySem.W.Frag) : Hp → List (List Int) → Addr → Prop := fun H kss p => ∃ us, SqT K H p us ∧ Paired (fun v ks => ∃ q, v = .ref q ∧ SqT K H q (ks.map V.int)) us kss
theorem keyII {X : Cx} (hu : X.A.units + 2 < cLine) : KeyF X (tup2Kind X.prog X.w) (isKII X.K) where
  snd := fun pins σ H s kss p I h => by
    obtain ⟨us, hS, hp⟩ := h
    obtain ⟨its, r, ⟨o, e, c, n, d⟩, _⟩ := I.tuple hS
    refine ⟨o, _, n, e, c, d, ?_⟩
    have conv : ∀ {us : List V} {kss : List (List Int)} {its : List Value}, Vals us its → Paired (fun v ks => ∃ q, v = .ref q ∧ SqT X.K H q (ks.map V.int)) us kss → Paired (It2 X.prog X.w s.heap) kss its := by
      intro us kss its r hp
      induction hp generalizing its with
      | nil => cases r; exact .nil
      | cons h1 _ ih =>
        cases r with
        | cons r1 r2 =>
          obtain ⟨q, rfl, hq⟩ := h1
          cases r1
          refine .cons ⟨q, rfl, (keyI (X := X) (Nat.lt_of_le_of_lt (by omega) hu)).snd pins σ H s _ q I hq⟩ (ih r2)
    simpa using conv r hp
  room := hu
theorem isKII.grow {K : PySem.W.Frag} {H H' : Hp} {k : List (List Int)} {p : Addr} (e : Grow H H') (h : isKII K H k p) : isKII K H' k p := by
  obtain ⟨us, hS, hp⟩ := h
  refine ⟨us, e.tup hS, pr_mono (fun v ks hv => ?_) hp⟩
  obtain ⟨q, rfl, hq⟩ := hv
  exact ⟨q, rfl, e.tup hq⟩
end L2

set_option maxHeartbeats 4000000
namespace PySem
open PySem.W PyProof.Rows
/-! ### sorted(moments), one to four tuples of two ints -/
def kasRun {α : Type} (lt : Nat → Nat → Bool) : KasT α → α
  | .ret a => a
  | .ask i j k => kasRun lt (k (lt i j))
def kasIn (n : Nat) : KasT (Array Nat) → Bool
  | .ret p => p.toList.all fun i => decide (i < n)
  | .ask i j k => decide (i < n) && decide (j < n) && kasIn n (k true) && kasIn n (k false)
theorem kas_det {cmp : Nat → Nat → (Bool → Shared → Prop) → Shared → Prop} {lt : Nat → Nat → Bool} {n : Nat} {s : Shared} {Q : Array Nat → Shared → Prop} (hc : ∀ i j (C : Bool → Shared → Prop), i < n → j < n → C (lt i j) s → cmp i j C s) :
    ∀ t : KasT (Array Nat), kasIn n t = true → ((∀ i ∈ (kasRun lt t).toList, i < n) → Q (kasRun lt t) s) → t.kasWp cmp Q s
  | .ret p, h, q => q fun i hi => of_decide_eq_true (List.all_eq_true.mp h i hi)
  | .ask i j k, h, q => by
    unfold kasIn at h
    simp only [Bool.and_eq_true, decide_eq_true_eq] at h
    obtain ⟨⟨⟨h1, h2⟩, h3⟩, h4⟩ := h
    refine hc i j _ h1 h2 (kas_det hc (k (lt i j)) ?_ q)
    cases lt i j
    · exact h4
    · exact h3
theorem kasIn2 : kasIn 2 (kas_sort 2) = true := by decide +kernel
theorem kasIn3 : kasIn 3 (kas_sort 3) = true := by decide +kernel
theorem kasIn4 : kasIn 4 (kas_sort 4) = true := by decide +kernel
theorem kas_one (lt : Nat → Nat → Bool) : kasRun lt (kas_sort 1) = #[0] := rfl
section
variable {prog : Program} {w : World} {A : Around} {E : Value → Shared → Prop} {s : Shared}
theorem sort_plain {a : Addr} {vs : List Value} {n : Nat} {lt : Nat → Nat → Bool} {P : Fin → Shared → Prop} (ho : s.heap.get? a = some (seqObj "list" vs.toArray n)) (h1 : 1 ≤ vs.length) (h4 : vs.length ≤ 4)
    (hk : 2 ≤ vs.length → ∀ h' : Heap, (∀ b o, b ≠ a → s.heap.get? b = some o → h'.get? b = some o) → ∃ κ, (∀ Q : SortKind → Shared → Prop, Q κ { s with heap := h' } → wpAny (model prog w) A (keyKind' vs.toArray) Q (fun _ _ => False) { s with heap := h' }) ∧
      ∀ i j (C : Bool → Shared → Prop), i < vs.length → j < vs.length → C (lt i j) { s with heap := h' } → kas_ask prog w A κ vs i j C { s with heap := h' })
    (h : ∀ h' c, (∀ b o, b ≠ a → s.heap.get? b = some o → h'.get? b = some o) → (∀ i ∈ (kasRun lt (kas_sort vs.length)).toList, i < vs.length) → (kasRun lt (kas_sort vs.length)).toList.length = vs.length → h'.get? a = some (seqObj "list" ((kasRun lt (kas_sort vs.length)).toList.map fun i => vs.getD i Value.none).toArray c) → P (.done (.ret .none)) { s with heap := h' }) :
    wpAny (model prog w) A (Builtin.«list.sort» ⟨[.ref a], []⟩) P E s := by
  have s1 := Heap.SameBut.update s.heap a (Obj.mapSeq fun _ => (#[] : Array Value))
  obtain ⟨e1, ho1⟩ : ∃ e1, (s.heap.update a (Obj.mapSeq fun _ => (#[] : Array Value))).get? a = some (seqObj "list" #[] e1) := ⟨_, get?_update_seq ho fun _ => #[]⟩
  have keep : ∀ b o, b ≠ a → s.heap.get? b = some o → (((s.heap.update a (Obj.mapSeq fun _ => (#[] : Array Value))).push (seqObj "tuple" vs.toArray 0)).push (seqObj "list" #[] 0)).get? b = some o := fun b o hb e => Heap.get?_push_of_some _ (Heap.get?_push_of_some _ ((s1.2 b hb).trans e))
  have ha : (((s.heap.update a (Obj.mapSeq fun _ => (#[] : Array Value))).push (seqObj "tuple" vs.toArray 0)).push (seqObj "list" #[] 0)).get? a = some (seqObj "list" #[] e1) := Heap.get?_push_of_some _ (Heap.get?_push_of_some _ ho1)
  rw [list_sort_plain]
  refine wpAny_bind (listItems_at ho rfl ?_)
  refine wpAny_bind (listUpdate_at ho rfl ?_ (by rw [List.size_toArray, sizeLine_eq]; omega) (Nat.zero_le _))
  refine wpAny_bind (seqEpoch_at ho1 rfl ?_)
  refine wpAny_bind (wpAny_newTuple ?_ (by show vs.length ≤ _; rw [sizeLine_eq]; omega))
  refine wpAny_bind (wpAny_newList ?_ (Nat.zero_le _))
  refine wpAny_holding ?_
  show wpAny (model prog w) A _ P E { s with heap := ((s.heap.update a (Obj.mapSeq fun _ => (#[] : Array Value))).push (seqObj "tuple" vs.toArray 0)).push (seqObj "list" #[] 0) }
  generalize ((s.heap.update a (Obj.mapSeq fun _ => (#[] : Array Value))).push (seqObj "tuple" vs.toArray 0)).push (seqObj "list" #[] 0) = G at keep ha ⊢
  dsimp only
  -- the end
  have fin : ∀ out : List Value, out.length = vs.length → out = ((kasRun lt (kas_sort vs.length)).toList.map fun i => vs.getD i Value.none) → (∀ i ∈ (kasRun lt (kas_sort vs.length)).toList, i < vs.length) → P (.done (.ret .none)) { s with heap := G.update a (Obj.mapSeq fun _ => out.toArray) } := by
    intro out ho2 e hin
    have s2 := Heap.SameBut.update G a (Obj.mapSeq fun _ => out.toArray)
    obtain ⟨c2, hc2⟩ : ∃ c2, (G.update a (Obj.mapSeq fun _ => out.toArray)).get? a = some (seqObj "list" out.toArray c2) := ⟨_, get?_update_seq ha fun _ => out.toArray⟩
    refine h _ c2 (fun b o hb q => (s2.2 b hb).trans (keep b o hb q)) hin (by have z := ho2; rw [e, List.length_map] at z; exact z) ?_
    rw [← e]; exact hc2
  by_cases h2 : vs.length < 2
  · have h2' : vs.toArray.size < 2 := by rw [List.size_toArray]; exact h2
    rw [if_pos h2', if_pos h2']
    refine wpAny_bind (wpAny_pure ?_)
    rw [StateT.run_pure]
    refine wpAny_bind (wpAny_pure ?_)
    dsimp only
    obtain ⟨v, rfl⟩ : ∃ v, vs = [v] := by
      match vs, h1, h2 with
      | [v], _, _ => exact ⟨v, rfl⟩
    have e0 : (arrOf (SortSt.mk' general' ([v].toArray.zip [v].toArray) #[] 7 none)).map (·.2) = [v].toArray := by
      show ([v].toArray.zip [v].toArray).map (·.2) = [v].toArray
      simp
    rw [e0]
    refine wpAny_bind (seqEpoch_at ha rfl ?_)
    refine wpAny_bind (listUpdate_at ha rfl ?_ (Nat.zero_le _) (by show 1 ≤ _; rw [sizeLine_eq]; omega))
    simp only [bne_self_eq_false, Bool.false_eq_true, if_false]
    have hr : kasRun lt (kas_sort [v].length) = #[0] := kas_one lt
    refine wpAny_pure (fin [v] rfl (by rw [hr]; rfl) (by rw [hr]; simp))
  · have h2' : ¬ vs.toArray.size < 2 := by rw [List.size_toArray]; exact h2
    rw [if_neg h2', if_neg h2']
    obtain ⟨κ, k1, k2⟩ := hk (by omega) G keep
    refine wpAny_bind (wpAny_mono (k1 (fun κ' s' => κ' = κ ∧ s' = { s with heap := G }) ⟨rfl, rfl⟩) (fun κ' s' hq => ?_) fun _ _ z => z.elim)
    obtain ⟨rfl, rfl⟩ := hq
    have inn : kasIn vs.length (kas_sort vs.length) = true := by
      have : vs.length = 2 ∨ vs.length = 3 ∨ vs.length = 4 := by omega
      rcases this with e | e | e <;> rw [e]
      · exact kasIn2
      · exact kasIn3
      · exact kasIn4
    refine wpAny_bind (wpAny_mono (kat_run (Q := fun st' s' => ∃ p : Array Nat, p.size = vs.length ∧ arrOf st' = p.map (kas_item (vs.toArray.zip vs.toArray)) ∧ failedOf st' = none ∧ p = kasRun lt (kas_sort vs.length) ∧ (∀ i ∈ p.toList, i < vs.length) ∧ s' = { s with heap := G })
      (G := fun p s' => p = kasRun lt (kas_sort vs.length) ∧ (∀ i ∈ p.toList, i < vs.length) ∧ s' = { s with heap := G }) rfl (by omega) (by omega) (fun p' st' s' a1 a2 a3 a4 => ⟨p', a1, a2, a3, a4⟩) (kas_det k2 _ inn fun hin => ⟨rfl, hin, rfl⟩)) ?_ fun _ _ e => e)
    rintro ⟨⟨⟩, st'⟩ s' ⟨p, hp, har, hf, ep, hin, rfl⟩
    dsimp only
    have hout := kat_snds rfl har
    rw [hout]
    have hsz : (p.toList.map fun i => vs.getD i Value.none).length = vs.length := by rw [List.length_map, Array.length_toList, hp]
    refine wpAny_bind (seqEpoch_at ha rfl ?_)
    refine wpAny_bind (listUpdate_at ha rfl ?_ (Nat.zero_le _) (by show (List.toArray (p.toList.map fun i => vs.getD i Value.none)).size ≤ _; rw [List.size_toArray, hsz, sizeLine_eq]; omega))
    rw [hf]
    simp only [bne_self_eq_false, Bool.false_eq_true, if_false]
    subst ep
    exact wpAny_pure (fin _ hsz rfl hin)
end
end PySem

set_option maxHeartbeats 4000000
namespace L2
open PySem PySem.W PySem.Spec PyProof.Rows Rope
/-! ### sorted(moments) within the invariant -/
def lexM (a b : M) : Bool := if a.1 = b.1 then decide ((2 : Int) ^ a.2 < 2 ^ b.2) else decide (a.1 < b.1)
def sortP (l : List M) : List M := (kasRun (fun i j => lexM (l.getD i (0, 0)) (l.getD j (0, 0))) (kas_sort l.length)).toList.map fun i => l.getD i (0, 0)
/-- where a moment's tuple lies -/
def TupAt (h : Heap) (v : Value) (m : M) : Prop := ∃ a o n t u, v = .ref a ∧ h.get? a = some o ∧ o.cls = .type "tuple" ∧ o.data = .seq #[.int m.1 t, .int (2 ^ m.2) u] n
theorem tup_firsts {h : Heap} : ∀ {its : List Value} {ms : List M}, Paired (TupAt h) its ms → ∃ fs, KatTups h its fs ∧ fs.length = its.length ∧ ∀ f ∈ fs, ∃ i t, f = .int i t
  | _, _, .nil => ⟨[], trivial, rfl, fun _ h => by cases h⟩
  | _, _, .cons ⟨a, o, n, t, u, e, h1, h2, h3⟩ r => by
    obtain ⟨fs, k, l, hf⟩ := tup_firsts r
    refine ⟨_ :: fs, ⟨⟨a, o, _, n, e, h1, h2, h3, rfl⟩, k⟩, by simp [l], fun f hf' => ?_⟩
    rcases List.mem_cons.mp hf' with z | z
    · exact ⟨_, _, z⟩
    · exact hf f z
theorem tup_lt {prog : Program} {w : World} {A : Around} {s : Shared} {x y : Value} {m n : M} {Q : Bool → Shared → Prop} {E : Value → Shared → Prop} (hx : TupAt s.heap x m) (hy : TupAt s.heap y n) (h : Q (lexM m n) s) : wpAny (model prog w) A (keyLt' (tuples' (Value.type "int" != Value.type "tuple")) x y) Q E s := by
  obtain ⟨a, o, k, t, u, rfl, h1, h2, h3⟩ := hx
  obtain ⟨a', o', k', t', u', rfl, h1', h2', h3'⟩ := hy
  refine kat_lt h1 h3 h1' h3' ?_
  show KatLex prog w A _ _ Q [(Value.int m.1 t, Value.int n.1 t'), (Value.int (2 ^ m.2) u, Value.int (2 ^ n.2) u')] 0 s
  refine kat_cons (wpAny_eqBool_int ?_)
  unfold lexM at h
  by_cases e : m.1 = n.1
  · rw [if_pos e] at h
    refine kat_go (fun _ => ?_) (fun z => absurd z (by simp [e]))
    refine kat_yes (kat_cons (wpAny_eqBool_int ?_))
    by_cases e2 : (2 : Int) ^ m.2 = 2 ^ n.2
    · refine kat_go (fun _ => ?_) (fun z => absurd z (by simp [e2]))
      refine kat_yes (kat_nil ?_)
      rw [decide_eq_false (by omega)] at h
      exact h
    · refine kat_go (fun z => absurd z (by simp [e2])) (fun _ => ?_)
      refine kat_no ?_
      exact kat_one _ _ (wpAny_lt_int h)
  · rw [if_neg e] at h
    refine kat_go (fun z => absurd z (by simp [e])) (fun _ => ?_)
    refine kat_no ?_
    exact oneLt_int h
section
variable {X : Cx}
theorem tups_of {pins : List (Addr × Obj)} {σ : St} {H : Hp} {s : Shared} (I : Inv X pins σ H s) : ∀ {vs : List V} {its : List Value} {ms : List M}, Vals vs its → Paired (Mo X.K H) vs ms → Paired (TupAt s.heap) its ms
  | _, _, _, .nil, .nil => .nil
  | _, _, _, .cons r t, .cons q p => by
    refine .cons ?_ (tups_of I t p)
    obtain ⟨a, rfl, ha⟩ := q
    cases r
    obtain ⟨us, ru, ⟨o, e, c, n, d⟩, _⟩ := I.tuple ha
    obtain ⟨u1, u2, rfl, r1, r2⟩ := ru.two
    obtain ⟨t1, rfl⟩ := r1
    obtain ⟨t2, rfl⟩ := r2
    exact ⟨a, o, n, t1, t2, rfl, e, c, d⟩
theorem tups_keep {h h' : Heap} (k : ∀ b o, h.get? b = some o → h'.get? b = some o) : ∀ {its : List Value} {ms : List M}, Paired (TupAt h) its ms → Paired (TupAt h') its ms
  | _, _, .nil => .nil
  | _, _, .cons ⟨a, o, n, t, u, e, h1, r⟩ p => .cons ⟨a, o, n, t, u, e, k _ _ h1, r⟩ (tups_keep k p)
theorem pd_get {α β : Type} {F : α → β → Prop} {l₁ : List α} {l₂ : List β} (x : α) (y : β) (h : Paired F l₁ l₂) : ∀ i, i < l₁.length → F (l₁.getD i x) (l₂.getD i y) := by
  induction h with
  | nil => intro i hi; simp at hi
  | cons r _ ih => intro i hi; cases i with
    | zero => simpa using r
    | succ i => simpa using ih i (by simpa using hi)
theorem vals_map {vs : List V} {its : List Value} (r : Vals vs its) : ∀ {l : List Nat}, (∀ i ∈ l, i < its.length) → Vals (l.map fun i => vs.getD i .non) (l.map fun i => its.getD i Value.none)
  | [], _ => .nil
  | i :: l, h => .cons (by
      have hi := h i (by simp)
      have e := r.length
      have hx : vs[i]? = some vs[i] := by simp [e, hi]
      obtain ⟨u, hu, ru⟩ := r.get hx
      show RelV (vs.getD i V.non) (its.getD i Value.none)
      rw [List.getD_eq_getElem?_getD, List.getD_eq_getElem?_getD, hx, hu]
      exact ru) (vals_map r fun j hj => h j (by simp [hj]))
theorem mo_map {H : Hp} {K : Frag} {vs : List V} {ms : List M} (r : Paired (Mo K H) vs ms) : ∀ {l : List Nat}, (∀ i ∈ l, i < vs.length) → Paired (Mo K H) (l.map fun i => vs.getD i .non) (l.map fun i => ms.getD i (0, 0))
  | [], _ => .nil
  | i :: l, h => .cons (pd_get _ _ r i (h i (by simp))) (mo_map r fun j hj => h j (by simp [hj]))
def rSortM (K : Frag) : List V → Hp → VK → Prop := fun xs H Q => ∃ l vs ms, xs = [.ref l] ∧ SqL K H l vs ∧ Paired (Mo K H) vs ms ∧ 1 ≤ ms.length ∧ ms.length ≤ 4 ∧ ∀ D us, H D = none → Paired (Mo K (upd H D (.lst us))) us (sortP ms) → Q (.ref D) (upd H D (.lst us))
theorem call_sortedM : CallR X (.builtin "sorted") (rSortM X.K) := by
  intro pins s σ H xs us Q I rv h
  obtain ⟨l, vs, ms, rfl, hl, hp, h1, h4, h⟩ := h
  obtain ⟨u, rfl, ru⟩ := rv.one
  cases ru
  obtain ⟨its, r, ⟨ol, n, e0, e1, e2, e3⟩, _⟩ := I.list hl
  have hvl := r.length
  have hml := pr_len hp
  have hL : s.heap.IsList l its.toArray := ⟨ol, e0, e1, n, e3⟩
  have tp := tups_of I r hp
  refine Calls.call_function_entry kind_sorted plain_sorted entry_sorted (args_sorted1 _) ?_
  unfold Builtin.«sorted»
  refine wpAny_bind (m := checkCount "sorted" 1 1 _) (wpAny_pure ?_)
  refine wpAny_bind (collect_list hL ?_ (by rw [sizeLine_eq]; omega))
  refine wpAny_bind (wpAny_newList ?_ (by rw [sizeLine_eq]; omega))
  have hsz : ((s.heap.push (seqObj "list" #[] 0)).update s.heap.objs.size (Obj.mapSeq (· ++ its.toArray))).objs.size = s.heap.objs.size + 1 := by
    rw [Heap.size_update, size_push']
  have hoL : (((s.heap.push (seqObj "list" #[] 0)).update s.heap.objs.size (Obj.mapSeq (· ++ its.toArray))).push (seqObj "list" its.toArray 0)).get? (s.heap.objs.size + 1) = some (seqObj "list" its.toArray 0) := by
    rw [← hsz]; exact Heap.get?_push_size _ rfl
  have keep : ∀ b o, s.heap.get? b = some o → (((s.heap.push (seqObj "list" #[] 0)).update s.heap.objs.size (Obj.mapSeq (· ++ its.toArray))).push (seqObj "list" its.toArray 0)).get? b = some o := fun b o q => by
    have hlt : b < s.heap.objs.size := Heap.lt_size q
    rw [Heap.get?_push_ne _ _ _ (by rw [hsz]; exact Nat.ne_of_lt (Nat.lt_succ_of_lt hlt)), Heap.get?_update_ne _ _ _ _ (Nat.ne_of_lt hlt), Heap.get?_push_ne _ _ _ (Nat.ne_of_lt hlt)]
    exact q
  show wpAny _ _ _ _ _ { s with heap := ((s.heap.push (seqObj "list" #[] 0)).update s.heap.objs.size (Obj.mapSeq (· ++ its.toArray))).push (seqObj "list" its.toArray 0) }
  rw [hsz]
  generalize ((s.heap.push (seqObj "list" #[] 0)).update s.heap.objs.size (Obj.mapSeq (· ++ its.toArray))).push (seqObj "list" its.toArray 0) = G at hoL keep ⊢
  refine wpAny_bind (wpAny_holding (wpAny_call_entry PyProof.Rows.slot_list_sort ⟨_, hoL, rfl⟩ PyProof.Rows.entry_list_sort ?body (args_list_sort _)))
  case body =>
    have keep2 : ∀ h' : Heap, (∀ b o, b ≠ s.heap.objs.size + 1 → G.get? b = some o → h'.get? b = some o) → ∀ b o, s.heap.get? b = some o → h'.get? b = some o := fun h' k b o q => k b o (Nat.ne_of_lt (Nat.lt_succ_of_lt (Heap.lt_size q))) (keep b o q)
    refine sort_plain (lt := fun i j => lexM (ms.getD i (0, 0)) (ms.getD j (0, 0))) hoL (by omega) (by omega) (fun h2 h' k' => ?_) (fun h' c k' hin hsz' ha' => ⟨_, rfl, wpAny_pure ⟨_, rfl, ?_⟩⟩)
    · have tp' := tups_keep (keep2 h' k') tp
      refine ⟨tuples' (Value.type "int" != Value.type "tuple"), fun Q' hq => ?_, fun i j C hi hj hc => ?_⟩
      · obtain ⟨fs, kt, hfl, hf⟩ := tup_firsts tp'
        refine kat_kind kt (by omega) (fun v hv => ?_) rfl hq
        obtain ⟨i, t, rfl⟩ := hf v hv
        exact .now
      · exact tup_lt (pd_get _ _ tp' i hi) (pd_get _ _ tp' j hj) hc
    · have fr1 : H (s.heap.objs.size + 1) = none := I.hok.fresh (Nat.le_succ _)
      have hil : its.length = ms.length := by omega
      rw [hil] at hin ha' hsz'
      have rv' := vals_map r (l := (kasRun (fun i j => lexM (ms.getD i (0, 0)) (ms.getD j (0, 0))) (kas_sort ms.length)).toList) (fun i hi => by rw [hil]; exact hin i hi)
      have mp := mo_map hp (l := (kasRun (fun i j => lexM (ms.getD i (0, 0)) (ms.getD j (0, 0))) (kas_sort ms.length)).toList) (fun i hi => by rw [hml]; exact hin i hi)
      have gr : Same H (upd H (s.heap.objs.size + 1) (.lst ((kasRun (fun i j => lexM (ms.getD i (0, 0)) (ms.getD j (0, 0))) (kas_sort ms.length)).toList.map fun i => vs.getD i .non))) := same_upd fr1
      refine ⟨.ref _, _, I.laid (a := s.heap.objs.size + 1) (o := .lst ((kasRun (fun i j => lexM (ms.getD i (0, 0)) (ms.getD j (0, 0))) (kas_sort ms.length)).toList.map fun i => vs.getD i .non)) (t' := s.toks) (keep2 h' k') (Nat.le_succ _) ⟨?_, _, c, rv', ha'⟩, rfl, h _ _ fr1 (pr_mono (fun _ _ z => z.same gr) mp)⟩
      rw [List.length_map, hsz', sizeLine_eq]
      omega
end
end L2

set_option maxHeartbeats 4000000
namespace L2
open PySem PySem.Spec PyProof.Rows
/-! ### list(d.values()) -/
section
variable {X : Cx} {κ : Type} [DecidableEq κ] {knd : HeapKind X.prog X.w κ}
abbrev VV (a d : Addr) : HO := .ext fun h => h.IsValuesView a d
theorem VV.ok {P : Program} {w : World} {H : Hp} {h : Heap} {a d : Addr} (x : h.IsValuesView a d) : ObjOk P w H h a (VV a d) :=
  ⟨x, (let ⟨o, ho, _⟩ := x; ⟨o, ho⟩), fun h1 h2 y k => let ⟨o, ho, r⟩ := y; ⟨o, k o ho, r⟩⟩
def rValues (knd : HeapKind X.prog X.w κ) : V → List V → Hp → VK → Prop := fun x vs H Q => ∃ d es, x = .ref d ∧ vs = [] ∧ H d = some (DO knd d es) ∧ ∀ a, H a = none → Q (.ref a) (upd H a (VV a d))
theorem mt_values : MtM X "dict.values" (rValues knd) := by
  intro pins s σ H x vs v us Q I rx rv h
  obtain ⟨d, es, rfl, rfl, hd, h⟩ := h
  cases rx
  have hus := rv.zero
  subst hus
  obtain ⟨⟨h1, h2, h3, o, ees, ep, xs, q1, q2, q3, q4, q5⟩, _, _⟩ := I.hok d _ hd
  refine wpAny_call_entry F.slot_dict_values ⟨o, q1, q2.1⟩ F.entry_dict_values ?_ (F.args_dict_values_1 _)
  unfold Builtin.«dict.values»
  refine wpAny_bind ?_
  unfold Builtin.Dict.noArgs
  refine wpAny_bind (wpAny_notOrdered_dict ⟨o, q1, q2.1⟩ ?_)
  show wpAny _ _ (pure d) _ _ s
  refine wpAny_pure ?_
  show wpAny _ _ (Builtin.Dict.showsAll d >>= _) _ _ s
  unfold Builtin.Dict.showsAll
  rw [if_neg (by rw [h1]; exact Bool.false_ne_true)]
  refine wpAny_bind (wpAny_pure ?_)
  refine wpAny_bind (wpAny_newObj_type (wpAny_pure ⟨_, rfl, ?_⟩))
  exact ⟨.ref s.heap.objs.size, _, I.laid (a := s.heap.objs.size) (o := VV s.heap.objs.size d) (t' := s.toks) (fun _ _ q => Heap.get?_push_of_some _ q) (Nat.le_refl _) (VV.ok ⟨_, Heap.get?_push_size _ rfl, rfl, rfl⟩), rfl, h _ (I.hok.fresh (Nat.le_refl _))⟩
def rListV (knd : HeapKind X.prog X.w κ) : List V → Hp → VK → Prop := fun vs H Q => ∃ a d es, vs = [.ref a] ∧ H a = some (VV a d) ∧ H d = some (DO knd d es) ∧ ∀ l, H l = none → Q (.ref l) (upd H l (.lst (es.map fun e => e.2.2)))
theorem call_list_values (hh : X.A.handled = none) : CallR X (.type "list") (rListV knd) := by
  intro pins s σ H vs us Q I rv h
  obtain ⟨a, d, es, rfl, ha, hd, h⟩ := h
  obtain ⟨u, rfl, ru⟩ := rv.one
  cases ru
  obtain ⟨⟨h1, h2, h3, o, ees, ep, xs, q1, q2, q3, q4, q5⟩, _, _⟩ := I.hok d _ hd
  obtain ⟨hv, _, _⟩ := I.hok a _ ha
  have esz : ees.size = es.length := by rw [ent_len q5, size_of_entries q4]
  refine PySem.W.kdl_call (raw_src_values (es := ees) (ep := ep)) hh ⟨hv, o, q1, q2, q3⟩ (by rw [esz]; exact h2) fun h' tk acc' c' hk hS hI => ?_
  have rel : Vals (es.map fun e => e.2.2) acc'.toList := by
    refine vals_at (by rw [List.length_map]; exact esz.symm.trans (hI.1.symm.trans Array.length_toList.symm)) fun i x v e1 e2 => ?_
    obtain ⟨e, he, hk'⟩ := hI.2 i v (by rw [← Array.getElem?_toList]; exact e2)
    rw [List.getElem?_map] at e1
    cases q : es[i]? with
    | none => rw [q] at e1; cases e1
    | some en =>
      rw [q] at e1
      cases e1
      obtain ⟨y, hy, r1, r2, r3⟩ := paired_get q5 q
      have e3 : ees[i]? = some (entryOfKey knd y) := by rw [entry_at q4, hy]; rfl
      rw [e3] at he
      cases he
      rw [← hk']
      exact r3
  refine ⟨.ref s.heap.objs.size, _, I.laid (a := s.heap.objs.size) (o := .lst (es.map fun e => e.2.2)) hk (Nat.le_refl _) ⟨by rw [List.length_map]; exact h2, acc'.toList, c', rel, ?_⟩, rfl, h _ (I.hok.fresh (Nat.le_refl _))⟩
  rw [hS, Array.toArray_toList]
end
end L2

set_option maxHeartbeats 4000000
namespace L2
open PySem PySem.Spec PyProof.Rows
/-- try: .. except R: .. (no name) -/
def tTryN (K : PySem.W.Frag) (R : Addr) (N : Nat) (Eb : XK) (tb ts : TS) : TS := fun D σ H => tb D σ H ∧ ∀ cl dd H1, Eb cl dd H1 → ∃ C, cl = .ref C ∧ (∃ bm bR, (∀ h, K.In h → XCls h C bm) ∧ (∀ h, K.In h → XCls h R bR) ∧ (Value.ref C :: bm).contains (.ref R) = true) ∧
  ∀ σ' : St, σ'.length = N → ts D σ' H1
theorem ps_tryN {X : Cx} {body : List Stmt} {b0 : Stmt} {suite : List Stmt} {x : Str} {np hpos pos : Pos} {R : Addr} {Eb : XK} {tb ts : TS} (hst : X.stack = X.env :: X.outer ∧ X.env.frame = some X.env.locals ∧ X.ex = []) (hg : Gl X x) (hm : X.mg x = some (.ref R))
    (hb : ∀ E pn, Passes (CXE X.prog X.w) (X.around X.A X.calm E pn) Eb → PSs (X.around X.A X.calm E pn) body tb)
    (hs : ∀ v, PSs (X.around (X.A.mark v) false (fun _ _ => False) X.pn) (b0 :: suite) ts) (hd : (x == ("__debug__" : Str)) = false := by decide) :
    PS X (.Try body [.ExceptHandler (some (.Name x np)) none (b0 :: suite) hpos] [] [] pos) (tTryN X.K R X.N.length Eb tb ts) := by
  intro pins s σ H D I h
  obtain ⟨h1, h2⟩ := h
  refine wpAny_Try_except ?_
  refine wpAny_mono (hb _ (X.pn ++ pins) ?_ [] s σ H D (I.around rfl I.ok.hd (fun p z => by simpa using z)) h1) (fun f s1 q => ?_) fun _ _ z => z
  · intro pins1 σ1 H1 s1 ev s2 I1 hx
    obtain ⟨e, T, cl, dd, H2, rfl, ho, hg2, un, hok, tr, he, hT, hHe, hHT, q⟩ := hx
    have I2 : Inv _ pins1 σ1 H2 s2 := I1.call' (ch := []) ho un hok hg2 fun b z => absurd z (by simp)
    have old : ∀ b, s1.heap.get? b = none → X.s₀.heap.get? b = none := fun b z => by
      cases y : X.s₀.heap.get? b with
      | none => rfl
      | some o =>
        obtain ⟨o', r⟩ := I1.base.there b o y (by show b ∉ X.ex; rw [hst.2.2]; simp)
        rw [z] at r; cases r
    have old2 : ∀ b, s2.heap.objs.size ≤ b → s1.heap.get? b = none := fun b z => by
      cases y : s1.heap.get? b with
      | none => rfl
      | some o =>
        obtain ⟨o', r⟩ := un.there b o y (by simp)
        exact absurd (Nat.lt_of_lt_of_le (Heap.lt_size r) z) (Nat.lt_irrefl _)
    have hfr : X.A.frames = some (X.env :: X.outer) := by rw [← hst.1]; exact I.ok.frames
    have hfs : frs X.stack = frs (X.env :: X.outer) := by rw [hst.1]
    have hfun : s2.heap.FunFrames X.base (X.env :: X.outer) := by rw [← hst.1]; exact I2.stack
    refine fly_note (base := X.base) hfr hfun hst.2.1 tr fun h3 T' hz D1 tr' => ?_
    refine fly_land (fs := frs (X.env :: X.outer)) tr' fun h4 _ D2 tr4 => ?_
    have D4 := D1.trans D2
    have hS : ∀ b ∈ [T, e] ++ [T'], s1.heap.get? b = none ∧ H2 b = none := fun b hb => by
      have hb : b = T ∨ b = e ∨ b = T' := by simpa using hb
      rcases hb with z | z | z
      · subst z; exact ⟨hT, hHT⟩
      · subst z; exact ⟨he, hHe⟩
      · subst z; exact ⟨old2 _ hz, hok.fresh hz⟩
    have I4 := I1.diff I2 (by show Diff _ (frs X.stack) _ _; rw [hfs]; exact D4) hS (fun b hb => old b (hS b hb).1)
    obtain ⟨C, rfl, ⟨bm, bR, xC, xR, hin⟩, hsu⟩ := h2 cl dd H2 q
    have I5 : Inv (X.around (X.A.mark (some (.ref e))) false (fun _ _ => False) X.pn) pins σ1 H2 { s2 with heap := h4 } := I4.around rfl (fun z => nomatch z) (fun p z => List.mem_append_left _ z)
    refine wpAny_handleBy_cons (codeAny_handlers_test (ld_glob I5 hg hm ?_ hd)) (fun z => nomatch z)
    obtain ⟨oe, vs, oT, ts', w1, w2, w3, w4, w5⟩ := id tr4
    refine x_matches (xC _ I5.kIn) (xR _ I5.kIn) w1 w2 hin ?_
    refine codeAny_handlers_suite ?_
    refine fly_land (s := { s2 with heap := h4 }) (fs := frs (X.env :: X.outer)) tr4 fun h6 _ D6 tr6 => ?_
    have hS6 : ∀ b ∈ [T'], s1.heap.get? b = none ∧ H2 b = none := fun b hb => hS b (List.mem_append_right _ hb)
    have I6 := I1.diff (s := { s2 with heap := h4 }) I4 (by show Diff _ (frs X.stack) _ _; rw [hfs]; exact D6) hS6 (fun b hb => old b (hS6 b hb).1)
    have I8 : Inv (X.around (X.A.mark (some (.ref e))) false (fun _ _ => False) X.pn) pins σ1 H2 { s2 with heap := h6 } := I6.around rfl (fun z => nomatch z) (fun p z => List.mem_append_left _ z)
    refine wpAny_mono (hs (some (.ref e)) pins _ _ _ _ I8 (hsu σ1 I1.len)) (fun f s9 q9 => ?_) fun _ _ z => z.elim
    cases f with
    | next => obtain ⟨σ', H', J, q⟩ := q9; exact ⟨σ', H', J.back I.ok (pins := pins) (fun p z => z), q⟩
    | brk => obtain ⟨σ', H', J, q⟩ := q9; exact ⟨σ', H', J.back I.ok (pins := pins) (fun p z => z), q⟩
    | cont => obtain ⟨σ', H', J, q⟩ := q9; exact ⟨σ', H', J.back I.ok (pins := pins) (fun p z => z), q⟩
    | ret u => obtain ⟨v, σ', H', J, rv, q⟩ := q9; exact ⟨v, σ', H', J.back I.ok (pins := pins) (fun p z => z), rv, q⟩
  · cases f with
    | next =>
      obtain ⟨σ', H', J, q⟩ := q
      exact wpAny_execs_nil ⟨σ', H', J.back I.ok (fun p z => by simpa using z), q⟩
    | brk => obtain ⟨σ', H', J, q⟩ := q; exact ⟨σ', H', J.back I.ok (fun p z => by simpa using z), q⟩
    | cont => obtain ⟨σ', H', J, q⟩ := q; exact ⟨σ', H', J.back I.ok (fun p z => by simpa using z), q⟩
    | ret u => obtain ⟨v, σ', H', J, rv, q⟩ := q; exact ⟨v, σ', H', J.back I.ok (fun p z => by simpa using z), rv, q⟩
end L2

set_option maxHeartbeats 4000000
namespace Rp
open PySem L2 Rope
set_option maxHeartbeats 4000000
/-! ### the text by places -/
def top (i : Nat) : Stmt := PySem.Challenge.pw_ropeclock_k08_the_next_moment.main.body.getD i (.Pass ⟨0, 0, 0, 0⟩)
abbrev s_mean_and_half : Stmt := top 5
abbrev s_hour_behind : Stmt := top 6
abbrev s_earlier : Stmt := top 7
abbrev s_between : Stmt := top 8
abbrev s_in_order : Stmt := top 9
abbrev s_top_over : Stmt := top 10
abbrev s_lowest : Stmt := top 11
abbrev s_twos_in : Stmt := top 12
abbrev s_out_of : Stmt := top 16
abbrev s_lighting : Stmt := top 17
abbrev s_measured : Stmt := top 19
abbrev s_next_moment : Stmt := top 20
abbrev s_first_plans : Stmt := top 21
abbrev s_longer_by_one : Stmt := top 22
abbrev s_out_or_none : Stmt := top 23
abbrev s_ropes_in_order : Stmt := top 24
abbrev s_law_cell_at : Stmt := top 26
abbrev s_law_low : Stmt := top 27
abbrev s_law_sum : Stmt := top 28
abbrev s_law_less : Stmt := top 29
abbrev s_law_gap : Stmt := top 30
abbrev s_law_fraction : Stmt := top 31
abbrev s_law_moment : Stmt := top 32
abbrev s_law_new_moments : Stmt := top 33
abbrev s_law_put_in : Stmt := top 34
abbrev s_law_reached : Stmt := top 35
abbrev s_law_most : Stmt := top 36
abbrev s_law : Stmt := top 37
abbrev s_Late_init__ : Stmt := inClass (top 2) 0
/-- a tuple of the top -/
def TupIn (K : PySem.W.Frag) (a : Addr) (xs : List V) : Prop := ∃ (o : Obj) (its : Array Value) (n : Nat), K.lookup a = some o ∧ o.cls = .type "tuple" ∧ o.data = .seq its n ∧ its.size ≤ sizeLine ∧ Vals xs its.toList
theorem TupIn.sq {K : PySem.W.Frag} {a : Addr} {xs : List V} (h : TupIn K a xs) (H : Hp) : SqT K H a xs := .inr h
/-- what the top has made -/
structure Txt (K : PySem.W.Frag) (mg : Str → Option Value) : Prop where
  d_mean_and_half : DefIn K mg "mean_and_half" s_mean_and_half ["one", "other"]
  d_hour_behind : DefIn K mg "hour_behind" s_hour_behind ["one"]
  d_earlier : DefIn K mg "earlier" s_earlier ["one", "other"]
  d_between : DefIn K mg "between" s_between ["one", "other"]
  d_in_order : DefIn K mg "in_order" s_in_order ["moments"]
  d_top_over : DefIn K mg "top_over" s_top_over ["moment", "bottom"]
  d_lowest : DefIn K mg "lowest" s_lowest ["top", "bottom"]
  d_twos_in : DefIn K mg "twos_in" s_twos_in ["number"]
  d_out_of : DefIn K mg "out_of" s_out_of ["number", "rope", "moments"]
  d_lighting : DefIn K mg "lighting" s_lighting ["end", "moments"]
  d_measured : DefIn K mg "measured" s_measured ["most"]
  d_next_moment : DefIn K mg "next_moment" s_next_moment ["moment", "most"]
  d_first_plans : DefIn K mg "first_plans" s_first_plans ["most"]
  d_longer_by_one : DefIn K mg "longer_by_one" s_longer_by_one ["walked", "number"]
  d_out_or_none : DefIn K mg "out_or_none" s_out_or_none ["number", "rope", "moments"]
  d_ropes_in_order : DefIn K mg "ropes_in_order" s_ropes_in_order ["number"]
  d_law_cell_at : DefIn K mg "_law_cell_at" s_law_cell_at ["script", "k"]
  d_law_low : DefIn K mg "_law_low" s_law_low ["top", "bottom"]
  d_law_sum : DefIn K mg "_law_sum" s_law_sum ["one", "other"]
  d_law_less : DefIn K mg "_law_less" s_law_less ["one", "other"]
  d_law_gap : DefIn K mg "_law_gap" s_law_gap ["one", "other"]
  d_law_fraction : DefIn K mg "_law_fraction" s_law_fraction ["found", "due"]
  d_law_moment : DefIn K mg "_law_moment" s_law_moment ["cell"]
  d_law_new_moments : DefIn K mg "_law_new_moments" s_law_new_moments ["row"]
  d_law_put_in : DefIn K mg "_law_put_in" s_law_put_in ["moments", "moment"]
  d_law_reached : DefIn K mg "_law_reached" s_law_reached ["most"]
  d_law_most : DefIn K mg "_law_most" s_law_most ["cell"]
  d_law : DefIn K mg "law" s_law ["script"]
  v_START : ∃ a, mg "START" = some (.ref a) ∧ TupIn K a [.int (0), .int (1)]
  v_BEGINNING : ∃ t, mg "BEGINNING" = some (.int (-1) t)
  v_HOUR : ∃ a, mg "HOUR" = some (.ref a) ∧ TupIn K a [.int (1), .int (1)]
  e_Late : ∃ R L f fd, XR K mg R ∧ XL K mg s_Late_init__ R L f fd
  b_ValueError : mg "ValueError" = none
  b_abs : mg "abs" = none
  b_bool : mg "bool" = none
  b_int : mg "int" = none
  b_isinstance : mg "isinstance" = none
  b_len : mg "len" = none
  b_list : mg "list" = none
  b_max : mg "max" = none
  b_min : mg "min" = none
  b_range : mg "range" = none
  b_sorted : mg "sorted" = none
  b_tuple : mg "tuple" = none
/-- the table of in_order's code object -/
structure Tab (K : PySem.W.Frag) (mg : Str → Option Value) (Tb : Addr) : Prop where
  c : ∃ c, CodeOf K mg "in_order" c ∧ PySem.W.codeHdIn K c Tb = true
  n : K.lookup Tb = none
theorem tab_mk {K : PySem.W.Frag} {h : Heap} {mg : Str → Option Value} {Tb f c : Addr} {o : Obj} {fd : FuncData} (X : K.In h) (G : h.Ns mainGlobals mg) (a : PySem.W.nsIn K mainGlobals "in_order" = some (some (.ref f))) (l : K.lookup f = some o) (d : o.data = .func fd) (e : fd.code = .ref c) (t : PySem.W.codeHdIn K c Tb = true) (n : K.lookup Tb = none) : Tab K mg Tb := ⟨⟨c, ⟨f, o, fd, PySem.W.mg_of X G a, l, d, e⟩, t⟩, n⟩
def lamPos : Pos := match defBody s_in_order with
  | [_, .Return (some (.Call _ _ [⟨_, .Lambda _ _ _ p, _⟩] _)) _] => p
  | _ => ⟨0, 0, 0, 0⟩
abbrev TabO (H : Hp) (Tb : Addr) : Prop := TabS H Tb lamPos "in_order.<locals>.<lambda>"
def spLaw (K : PySem.W.Frag) (Tb : Addr) : Sp := fun vs H Q _ => ∃ (a : Addr) (ns : List Int), vs = [.ref a] ∧ SqL K H a (ns.map V.int) ∧ ns.length ≤ 63 ∧ TabO H Tb ∧ ∀ H', Q (.bl true) H'
/-! ### ropeclock.times -/
section
variable {P : Program} {w : World} {K : PySem.W.Frag} {mg : Str → Option Value} {base : Heap}
def spTwos : Sp := fun vs H Q _ => ∃ (j : Nat) (a : Int), vs = [.int (2 ^ j * (2 * a + 1))] ∧ Q (.int j) H
theorem sc_twos : FnScope ["number"] ["number"] (defScope s_twos_in) := ⟨rfl, rfl, rfl, by decide +kernel, rfl, by decide +kernel, by decide +kernel⟩
theorem ok_twos (T : Txt K mg) : OkD P w K mg base CX0 1 "twos_in" ["number"] spTwos := by
  refine T.d_twos_in.ok sc_twos (fun vs H Q E h => ?_) (fun f cdv A outer s H vs Q E hr h => ?_)
  · obtain ⟨j, a, rfl, _⟩ := h
    rfl
  · obtain ⟨j, a, rfl, k⟩ := h
    refine ⟨_, pss_one (ps_ret (pe_op op_sub (pe_bm0 PySem.F.plainAttrs_int PySem.F.slot_int_bit_length PySem.F.type_int_bit_length mt_bitlen (pe_op op_and (pv 0) (pe_un un_neg (pv 0)))) pe_int)), ?_⟩
    refine ⟨_, rfl, _, rfl, _, rfl, _, _, rfl, rfl, rfl, _, rfl, rfl, _, _, rfl, rfl, ?_⟩
    rw [PySem.W.kbt_low, bits_pow]
    have e : ((j + 1 : Nat) : Int) - 1 = (j : Int) := by omega
    show Q (.int (((j + 1 : Nat) : Int) - 1)) H
    rw [e]
    exact k
/-- lowest(top, 2 ^ k) -/
def spLowest (K : PySem.W.Frag) : Sp := fun vs H Q _ => ∃ (t : Int) (k : Nat), vs = [.int t, .int (2 ^ k)] ∧ ∀ v H', Same H H' → Mo K H' v (lowN t k) → Q v H'
theorem sc_lowest : FnScope ["top", "bottom", "halvings"] ["top", "bottom"] (defScope s_lowest) := ⟨rfl, rfl, rfl, by decide +kernel, rfl, by decide +kernel, by decide +kernel⟩
theorem shr_two (j h : Nat) (x : Int) (e : h ≤ j) : 2 ^ j * x / 2 ^ h = 2 ^ (j - h) * x := by
  have e1 : (2 : Int) ^ j = 2 ^ h * 2 ^ (j - h) := by rw [← Int.pow_add]; congr 1; omega
  rw [e1, Int.mul_assoc, Int.mul_ediv_cancel_left _ (by have := Rope.pow_pos h; omega)]
theorem ok_lowest (T : Txt K mg) : OkD P w K mg base CX0 2 "lowest" ["top", "bottom"] (spLowest K) := by
  have G : OkD P w K mg base CX0 1 "twos_in" ["number"] spTwos := ok_twos T
  obtain ⟨aS, mS, tS⟩ := T.v_START
  refine T.d_lowest.ok sc_lowest (fun vs H Q E h => ?_) (fun f cdv A outer s H vs Q E hr h => ?_)
  · obtain ⟨t, k, rfl, _⟩ := h
    rfl
  · obtain ⟨t, k, rfl, q⟩ := h
    refine ⟨_, pss_cons (ps_if (pt_cmpR op_eq (pv 0) pe_int (nomark _)) (pss_one (ps_ret (pe_glob (v := .ref aS) rfl mS rfl))) pss_nil)
      (pss_cons (ps_set (i := 2) sc_lowest.nd rfl (Or.inl rfl) (pe_callB (call_min2 rfl) rfl T.b_min PyProof.Rows.boot_min (pa_cons (pe_callD G hr pass0 (pa_cons (pv 0) pa_nil)) (pa_cons (pe_callD G hr pass0 (pa_cons (pv 1) pa_nil)) pa_nil))))
      (pss_one (ps_ret (pe_tup (pa_cons (pe_op op_shr (pv 0) (pv 2)) (pa_cons (pe_op op_shr (pv 1) (pv 2)) pa_nil)))))), ?_⟩
    refine ⟨_, rfl, rfl, _, rfl, ?_⟩
    refine ite2 (fun h => ?_) (fun h => ?_)
    · have h0 : t = 0 := by
        have := of_decide_eq_true h
        injection this
      subst h0
      exact q _ H (Same.refl H) (by rw [lowN_zero]; exact ⟨aS, rfl, tS.sq H⟩)
    · have h0 : t ≠ 0 := fun z => h (by rw [z]; exact decide_eq_true rfl)
      obtain ⟨j, a, rfl⟩ := odd_part _ t (Nat.le_refl _) h0
      have e2 : (2 : Int) ^ k = 2 ^ k * (2 * 0 + 1) := by rw [Int.mul_zero, Int.zero_add, Int.mul_one]
      refine ⟨_, rfl, j, a, rfl, _, rfl, k, 0, (by rw [← e2]; rfl), _, _, rfl, ?_⟩
      have em : (if (k : Int) < (j : Int) then (k : Int) else (j : Int)) = ((min j k : Nat) : Int) := by
        split <;> omega
      rw [em]
      refine ⟨_, rfl, _, rfl, _, _, rfl, rfl, (by show (0 : Int) ≤ ((min j k : Nat) : Int); omega), _, rfl, _, rfl, _, _, rfl, rfl, (by show (0 : Int) ≤ ((min j k : Nat) : Int); omega), (by show 2 ≤ sizeLine; decide), fun p hp => ?_⟩
      refine q _ _ (same_upd hp) ?_
      rw [low_odd]
      refine Mo.new ?_ ?_
      · show 2 ^ j * (2 * a + 1) / 2 ^ (((min j k : Nat) : Int).toNat) = 2 ^ (j - min j k) * (2 * a + 1)
        rw [Int.toNat_natCast, shr_two _ _ _ (by omega)]
      · show (2 : Int) ^ k / 2 ^ (((min j k : Nat) : Int).toNat) = 2 ^ (k - min j k)
        rw [Int.toNat_natCast]
        have := shr_two k (min j k) 1 (by omega)
        rw [Int.mul_one, Int.mul_one] at this
        exact this
/-- top_over(moment, 2 ^ n) -/
def Small (m : M) : Prop := m.1.natAbs < 2 ^ 1000 ∧ m.2 ≤ 1000
def spOver (K : PySem.W.Frag) : Sp := fun vs H Q _ => ∃ (v : V) (m : M) (n : Nat), vs = [v, .int (2 ^ n)] ∧ Mo K H v m ∧ Small m ∧ m.2 ≤ n ∧ n ≤ 1000 ∧ Q (.int (overM m n)) H
theorem sc_over : FnScope ["moment", "bottom"] ["moment", "bottom"] (defScope s_top_over) := ⟨rfl, rfl, rfl, by decide +kernel, rfl, by decide +kernel, by decide +kernel⟩
theorem ok_over (T : Txt K mg) : OkD P w K mg base CX0 1 "top_over" ["moment", "bottom"] (spOver K) := by
  refine T.d_top_over.ok sc_over (fun vs H Q E h => ?_) (fun f cdv A outer s H vs Q E hr h => ?_)
  · obtain ⟨v, m, n, rfl, _⟩ := h
    rfl
  · obtain ⟨v, m, n, rfl, ⟨p, rfl, hp⟩, hs, hmn, hn, k⟩ := h
    refine ⟨_, pss_one (ps_ret (pe_op op_shlW (pe_ixc 0 (pv 0)) (pe_op op_sub (pe_bm0 PySem.F.plainAttrs_int PySem.F.slot_int_bit_length PySem.F.type_int_bit_length mt_bitlen (pv 1))
      (pe_bm0 PySem.F.plainAttrs_int PySem.F.slot_int_bit_length PySem.F.type_int_bit_length mt_bitlen (pe_ixc 1 (pv 0)))))), ?_⟩
    refine ⟨_, rfl, p, _, _, rfl, hp, rfl, _, rfl, rfl, _, rfl, rfl, _, rfl, p, _, _, rfl, hp, rfl, rfl, _, rfl, rfl, _, _, rfl, rfl, _, _, rfl, rfl, ?_⟩
    have e : ((Builtin.Int.intBits (2 ^ n) : Nat) : Int) - ((Builtin.Int.intBits (2 ^ m.2) : Nat) : Int) = ((n - m.2 : Nat) : Int) := by
      rw [bits_pow, bits_pow]; omega
    have hb : Builtin.Int.intBits m.1 ≤ 1000 := PySem.intBits_le_iff.mpr hs.1
    show CShl m.1 (((Builtin.Int.intBits (2 ^ n) : Nat) : Int) - ((Builtin.Int.intBits (2 ^ m.2) : Nat) : Int)) ∧ Q (.int (m.1 * 2 ^ (((Builtin.Int.intBits (2 ^ n) : Nat) : Int) - ((Builtin.Int.intBits (2 ^ m.2) : Nat) : Int)).toNat)) H
    rw [e, Int.toNat_natCast]
    exact ⟨⟨by omega, by omega⟩, k⟩
def sp1 (K : PySem.W.Frag) (g : M → M) : Sp := fun vs H Q _ => ∃ (v : V) (m : M), vs = [v] ∧ Mo K H v m ∧ Small m ∧ ∀ v' H', Same H H' → Mo K H' v' (g m) → Q v' H'
def sp2 (K : PySem.W.Frag) (g : M → M → M) : Sp := fun vs H Q _ => ∃ (v u : V) (m n : M), vs = [v, u] ∧ Mo K H v m ∧ Mo K H u n ∧ Small m ∧ Small n ∧ ∀ v' H', Same H H' → Mo K H' v' (g m n) → Q v' H'
def sp2b (K : PySem.W.Frag) (g : M → M → Bool) : Sp := fun vs H Q _ => ∃ (v u : V) (m n : M), vs = [v, u] ∧ Mo K H v m ∧ Mo K H u n ∧ Small m ∧ Small n ∧ Q (.bl (g m n)) H
theorem max_pow (m n : Nat) : (if (2 : Int) ^ n > 2 ^ m then (2 : Int) ^ n else 2 ^ m) = 2 ^ (max m n) := by
  by_cases h : m < n
  · have e : max m n = n := by omega
    rw [if_pos, e]
    exact Int.pow_lt_pow_of_lt (by decide) h
  · have e : max m n = m := by omega
    rw [if_neg, e]
    have h' : n ≤ m := by omega
    have := Rope.pow_le h'
    omega
theorem sc_mean : FnScope ["one", "other", "bottom"] ["one", "other"] (defScope s_mean_and_half) := ⟨rfl, rfl, rfl, by decide +kernel, rfl, by decide +kernel, by decide +kernel⟩
theorem ok_mean (T : Txt K mg) : OkD P w K mg base CX0 3 "mean_and_half" ["one", "other"] (sp2 K meanM) := by
  have GO : OkD P w K mg base CX0 1 "top_over" ["moment", "bottom"] (spOver K) := ok_over T
  have GL : OkD P w K mg base CX0 2 "lowest" ["top", "bottom"] (spLowest K) := ok_lowest T
  refine T.d_mean_and_half.ok sc_mean (fun vs H Q E h => ?_) (fun f cdv A outer s H vs Q E hr h => ?_)
  · obtain ⟨v, u, m, n, rfl, _⟩ := h
    rfl
  · obtain ⟨v, u, m, n, rfl, ⟨p, rfl, hp⟩, ⟨q, rfl, hq⟩, sm, sn, k⟩ := h
    have hr1 : Room 1 _ := hr.mono (by decide)
    refine ⟨_, pss_cons (ps_set (i := 2) sc_mean.nd rfl (Or.inl rfl) (pe_callB (call_max2 rfl) rfl T.b_max PyProof.Rows.boot_max (pa_cons (pe_ixc 1 (pv 0)) (pa_cons (pe_ixc 1 (pv 1)) pa_nil))))
      (pss_one (ps_ret (pe_callD GL hr pass0 (pa_cons (pe_op op_add (pe_op op_add (pe_callD GO hr1 pass0 (pa_cons (pv 0) (pa_cons (pv 2) pa_nil))) (pe_callD GO hr1 pass0 (pa_cons (pv 1) (pa_cons (pv 2) pa_nil)))) (pv 2))
        (pa_cons (pe_op op_add (pv 2) (pv 2)) pa_nil))))), ?_⟩
    refine ⟨_, rfl, p, _, _, rfl, hp, rfl, _, rfl, q, _, _, rfl, hq, rfl, _, _, rfl, ?_⟩
    rw [max_pow]
    refine ⟨_, rfl, _, rfl, _, m, _, rfl, ⟨p, rfl, hp⟩, sm, Nat.le_max_left _ _, Nat.max_le.mpr ⟨sm.2, sn.2⟩, _, rfl, _, rfl, _, n, _, rfl, ⟨q, rfl, hq⟩, sn, Nat.le_max_right _ _, Nat.max_le.mpr ⟨sm.2, sn.2⟩, _, _, rfl, rfl, _, rfl, _, _, rfl, rfl,
      _, rfl, _, rfl, _, _, rfl, rfl, overM m (max m.2 n.2) + overM n (max m.2 n.2) + 2 ^ max m.2 n.2, max m.2 n.2 + 1, ?_, ?_⟩
    · show [V.int (overM m (max m.2 n.2) + overM n (max m.2 n.2) + 2 ^ max m.2 n.2), V.int (2 ^ max m.2 n.2 + 2 ^ max m.2 n.2)] = _
      rw [Int.pow_succ]
      have e : (2 : Int) ^ max m.2 n.2 + 2 ^ max m.2 n.2 = 2 ^ max m.2 n.2 * 2 := by omega
      rw [e]
    · intro v' H' hs hm
      exact k v' H' hs (by rw [← mean_prog]; exact hm)
theorem sc_hour : FnScope ["one"] ["one"] (defScope s_hour_behind) := ⟨rfl, rfl, rfl, by decide +kernel, rfl, by decide +kernel, by decide +kernel⟩
theorem ok_hour (T : Txt K mg) : OkD P w K mg base CX0 3 "hour_behind" ["one"] (sp1 K hourM) := by
  have GL : OkD P w K mg base CX0 2 "lowest" ["top", "bottom"] (spLowest K) := ok_lowest T
  refine T.d_hour_behind.ok sc_hour (fun vs H Q E h => ?_) (fun f cdv A outer s H vs Q E hr h => ?_)
  · obtain ⟨v, m, rfl, _⟩ := h
    rfl
  · obtain ⟨v, m, rfl, ⟨p, rfl, hp⟩, sm, k⟩ := h
    refine ⟨_, pss_one (ps_ret (pe_callD GL hr pass0 (pa_cons (pe_op op_add (pe_ixc 0 (pv 0)) (pe_ixc 1 (pv 0))) (pa_cons (pe_ixc 1 (pv 0)) pa_nil)))), ?_⟩
    refine ⟨_, rfl, p, _, _, rfl, hp, rfl, _, rfl, p, _, _, rfl, hp, rfl, _, _, rfl, rfl, _, rfl, p, _, _, rfl, hp, rfl, _, m.2, rfl, ?_⟩
    intro v' H' hs hm
    exact k v' H' hs (by rw [← hour_prog]; exact hm)
theorem sc_earlier : FnScope ["one", "other", "bottom"] ["one", "other"] (defScope s_earlier) := ⟨rfl, rfl, rfl, by decide +kernel, rfl, by decide +kernel, by decide +kernel⟩
theorem ok_earlier (T : Txt K mg) : OkD P w K mg base CX0 3 "earlier" ["one", "other"] (sp2b K lessM) := by
  have GO : OkD P w K mg base CX0 1 "top_over" ["moment", "bottom"] (spOver K) := ok_over T
  refine T.d_earlier.ok sc_earlier (fun vs H Q E h => ?_) (fun f cdv A outer s H vs Q E hr h => ?_)
  · obtain ⟨v, u, m, n, rfl, _⟩ := h
    rfl
  · obtain ⟨v, u, m, n, rfl, ⟨p, rfl, hp⟩, ⟨q, rfl, hq⟩, sm, sn, k⟩ := h
    have hr1 : Room 1 _ := hr.mono (by decide)
    refine ⟨_, pss_cons (ps_set (i := 2) sc_earlier.nd rfl (Or.inl rfl) (pe_callB (call_max2 rfl) rfl T.b_max PyProof.Rows.boot_max (pa_cons (pe_ixc 1 (pv 0)) (pa_cons (pe_ixc 1 (pv 1)) pa_nil))))
      (pss_one (ps_ret (pe_cmpR op_lt (pe_callD GO hr1 pass0 (pa_cons (pv 0) (pa_cons (pv 2) pa_nil))) (pe_callD GO hr1 pass0 (pa_cons (pv 1) (pa_cons (pv 2) pa_nil))) (nomark _)))), ?_⟩
    refine ⟨_, rfl, p, _, _, rfl, hp, rfl, _, rfl, q, _, _, rfl, hq, rfl, _, _, rfl, ?_⟩
    rw [max_pow]
    refine ⟨_, rfl, _, rfl, _, m, _, rfl, ⟨p, rfl, hp⟩, sm, Nat.le_max_left _ _, Nat.max_le.mpr ⟨sm.2, sn.2⟩, _, rfl, _, rfl, _, n, _, rfl, ⟨q, rfl, hq⟩, sn, Nat.le_max_right _ _, Nat.max_le.mpr ⟨sm.2, sn.2⟩, _, _, rfl, rfl, ?_⟩
    show Q (.bl (decide (overM m (max m.2 n.2) < overM n (max m.2 n.2)))) H
    rw [less_prog]
    exact k
theorem sc_between : FnScope ["one", "other", "bottom"] ["one", "other"] (defScope s_between) := ⟨rfl, rfl, rfl, by decide +kernel, rfl, by decide +kernel, by decide +kernel⟩
theorem ok_between (T : Txt K mg) : OkD P w K mg base CX0 3 "between" ["one", "other"] (sp2 K gapM) := by
  have GO : OkD P w K mg base CX0 1 "top_over" ["moment", "bottom"] (spOver K) := ok_over T
  have GL : OkD P w K mg base CX0 2 "lowest" ["top", "bottom"] (spLowest K) := ok_lowest T
  refine T.d_between.ok sc_between (fun vs H Q E h => ?_) (fun f cdv A outer s H vs Q E hr h => ?_)
  · obtain ⟨v, u, m, n, rfl, _⟩ := h
    rfl
  · obtain ⟨v, u, m, n, rfl, ⟨p, rfl, hp⟩, ⟨q, rfl, hq⟩, sm, sn, k⟩ := h
    have hr1 : Room 1 _ := hr.mono (by decide)
    refine ⟨_, pss_cons (ps_set (i := 2) sc_between.nd rfl (Or.inl rfl) (pe_callB (call_max2 rfl) rfl T.b_max PyProof.Rows.boot_max (pa_cons (pe_ixc 1 (pv 0)) (pa_cons (pe_ixc 1 (pv 1)) pa_nil))))
      (pss_one (ps_ret (pe_callD GL hr pass0 (pa_cons (pe_callB call_abs rfl T.b_abs PyProof.Rows.boot_abs (pa_cons (pe_op op_sub (pe_callD GO hr1 pass0 (pa_cons (pv 0) (pa_cons (pv 2) pa_nil))) (pe_callD GO hr1 pass0 (pa_cons (pv 1) (pa_cons (pv 2) pa_nil)))) pa_nil))
        (pa_cons (pv 2) pa_nil))))), ?_⟩
    refine ⟨_, rfl, p, _, _, rfl, hp, rfl, _, rfl, q, _, _, rfl, hq, rfl, _, _, rfl, ?_⟩
    rw [max_pow]
    refine ⟨_, rfl, _, rfl, _, m, _, rfl, ⟨p, rfl, hp⟩, sm, Nat.le_max_left _ _, Nat.max_le.mpr ⟨sm.2, sn.2⟩, _, rfl, _, rfl, _, n, _, rfl, ⟨q, rfl, hq⟩, sn, Nat.le_max_right _ _, Nat.max_le.mpr ⟨sm.2, sn.2⟩, _, _, rfl, rfl, _, rfl, _, rfl, _, max m.2 n.2, rfl, ?_⟩
    intro v' H' hs hm
    exact k v' H' hs (by rw [← gap_prog]; exact hm)
end

/-! ### the law's own words -/
section
variable {P : Program} {w : World} {K : PySem.W.Frag} {mg : Str → Option Value} {base : Heap}
def spCell (K : PySem.W.Frag) : Sp := fun vs H Q _ => ∃ (a : Addr) (ns : List Int) (k : Nat), vs = [.ref a, .int k] ∧ SqL K H a (ns.map V.int) ∧ Q (.int (ns.getD k 0)) H
theorem sc_cell : FnScope ["script", "k"] ["script", "k"] (defScope s_law_cell_at) := ⟨rfl, rfl, rfl, by decide +kernel, rfl, by decide +kernel, by decide +kernel⟩
theorem ok_cell (T : Txt K mg) : OkD P w K mg base CX0 1 "_law_cell_at" ["script", "k"] (spCell K) := by
  refine T.d_law_cell_at.ok sc_cell (fun vs H Q E h => ?_) (fun f cdv A outer s H vs Q E hr h => ?_)
  · obtain ⟨a, ns, k, rfl, _⟩ := h
    rfl
  · obtain ⟨a, ns, k, rfl, hS, q⟩ := h
    refine ⟨_, pss_cons (ps_if (pt_cmpR op_lt (pv 1) (pe_callB call_len_seq rfl T.b_len PySem.boot_len (pa_cons (pv 0) pa_nil)) (nomark _)) (pss_one (ps_ret (pe_ix ix_list (pv 0) (pv 1) (fun _ _ => rfl)))) pss_nil) (pss_one (ps_ret pe_int)), ?_⟩
    refine ⟨_, rfl, _, rfl, a, _, rfl, .inl hS, _, _, rfl, rfl, _, rfl, ite2 (fun h => ?_) (fun h => ?_)⟩
    · have hk : k < ns.length := by
        have := of_decide_eq_true h
        rw [List.length_map] at this
        omega
      refine ⟨_, rfl, _, rfl, a, _, _, _, rfl, rfl, hS, atI_nat (v := .int (ns.getD k 0)) ?_, q⟩
      rw [List.getElem?_map, List.getElem?_eq_getElem hk, List.getD_eq_getElem?_getD, List.getElem?_eq_getElem hk]
      rfl
    · have hk : ¬ k < ns.length := fun z => h (decide_eq_true (by rw [List.length_map]; omega))
      have e : ns.getD k 0 = 0 := by
        rw [List.getD_eq_getElem?_getD, List.getElem?_eq_none (by omega)]
        rfl
      rw [e] at q
      exact q
end

section
variable {P : Program} {w : World} {K : PySem.W.Frag} {mg : Str → Option Value} {base : Heap}
theorem sc_llow : FnScope ["top", "bottom"] ["top", "bottom"] (defScope s_law_low) := ⟨rfl, rfl, rfl, by decide +kernel, rfl, by decide +kernel, by decide +kernel⟩
theorem ok_llow (T : Txt K mg) : OkD P w K mg base CX0 1 "_law_low" ["top", "bottom"] (spLowest K) := by
  refine T.d_law_low.ok sc_llow (fun vs H Q E h => ?_) (fun f cdv A outer s H vs Q E hr h => ?_)
  · obtain ⟨t, k, rfl, _⟩ := h
    rfl
  · obtain ⟨t, k, rfl, q⟩ := h
    refine ⟨_, pss_cons (ps_while PassesOwn.never (PW.pt (pw_and (pt_cmpR op_gt (pv 1) pe_int (nomark _)) (pw_and1 (pt_cmpR op_eq (pe_op op_mod (pv 0) pe_int) pe_int (nomark _)))))
        (pss_cons (ps_set (i := 0) sc_llow.nd rfl (Or.inl rfl) (pe_op op_fdiv (pv 0) pe_int)) (pss_one (ps_set (i := 1) sc_llow.nd rfl (Or.inl rfl) (pe_op op_fdiv (pv 1) pe_int)))))
      (pss_one (ps_ret (pe_tup (pa_cons (pv 0) (pa_cons (pv 1) pa_nil))))), ?_⟩
    refine ⟨fun m σ H1 => ∃ t' : Int, H1 = H ∧ σ = [some (.int t'), some (.int (2 ^ m))] ∧ lowN t' m = lowN t k, ⟨k, t, rfl, rfl, rfl⟩, ?_⟩
    rintro m σ H1 ⟨t', rfl, rfl, e⟩
    have fin : ∀ t'' : Int, lowN t'' m = lowN t k → Canon (t'', m) → ∀ p, H1 p = none → Q (.ref p) (upd H1 p (.tup [.int t'', .int (2 ^ m)])) := fun t'' e1 c p hp => by
      refine q _ _ (same_upd hp) ?_
      rw [← e1, show lowN t'' m = (t'', m) from lowN_self c]
      exact Mo.new rfl rfl
    refine ⟨_, rfl, _, _, rfl, rfl, _, rfl, ite2 (fun h => ?_) (fun h => ?_)⟩
    · have h1 : (1 : Int) < 2 ^ m := of_decide_eq_true h
      cases m with
      | zero => exact absurd h1 (by decide)
      | succ m =>
        refine ⟨_, rfl, _, _, rfl, rfl, (by show (0 : Int) < 2; decide), rfl, _, rfl, ite2 (fun h2 => ?_) (fun h2 => ?_)⟩
        · have h3 : t' % 2 = 0 := by
            have := of_decide_eq_true h2
            injection this
          refine ⟨fun σ' H' => H' = H1 ∧ σ' = [some (.int (t' / 2)), some (.int (2 ^ m))], ?_, ?_⟩
          · rintro σ' H' ⟨rfl, rfl⟩
            refine ⟨m, Nat.lt_succ_self m, t' / 2, rfl, rfl, ?_⟩
            rw [← e]
            conv => rhs; unfold lowN
            rw [if_pos h3]
          · refine ⟨_, rfl, _, _, rfl, rfl, ⟨by decide, by decide⟩, _, rfl, _, _, rfl, rfl, ⟨by decide, by decide⟩, rfl, ?_⟩
            have e2 : (2 : Int) ^ (m + 1) / 2 = 2 ^ m := by
              rw [Int.pow_succ, Int.mul_ediv_cancel _ (by decide)]
            show [some (V.int (t' / 2)), some (V.int (2 ^ (m + 1) / 2))] = _
            rw [e2]
        · refine ⟨_, rfl, _, rfl, (by show 2 ≤ sizeLine; decide), fun p hp => fin t' e (Or.inr ?_) p hp⟩
          show t' % 2 = 1
          have h3 : t' % 2 ≠ 0 := fun z => h2 (decide_eq_true (by show V.int (t' % 2) = V.int 0; rw [z]))
          omega
    · refine iteF ?_
      refine ⟨_, rfl, _, rfl, (by show 2 ≤ sizeLine; decide), fun p hp => fin t' e (Or.inl ?_) p hp⟩
      show m = 0
      cases m with
      | zero => rfl
      | succ m =>
        refine absurd (decide_eq_true ?_) h
        show (1 : Int) < 2 ^ (m + 1)
        have := Rope.pow_pos m
        rw [Int.pow_succ]; omega
def Lo (m : M) : Prop := m.2 ≤ 40
theorem powB {n : Nat} (h : n ≤ 40) : -(2 ^ 64) < (2 : Int) ^ n ∧ (2 : Int) ^ n < 2 ^ 64 := by
  have h1 := Rope.pow_pos n
  have h2 := Rope.pow_le h
  have h3 : (2 : Int) ^ 40 < 2 ^ 64 := by decide
  omega
def spL2 (K : PySem.W.Frag) (g : M → M → M) : Sp := fun vs H Q _ => ∃ (v u : V) (m n : M), vs = [v, u] ∧ Mo K H v m ∧ Mo K H u n ∧ Lo m ∧ Lo n ∧ ∀ v' H', Same H H' → Mo K H' v' (g m n) → Q v' H'
def spL2b (K : PySem.W.Frag) (g : M → M → Bool) : Sp := fun vs H Q _ => ∃ (v u : V) (m n : M), vs = [v, u] ∧ Mo K H v m ∧ Mo K H u n ∧ Lo m ∧ Lo n ∧ Q (.bl (g m n)) H
theorem sc_lsum : FnScope ["one", "other"] ["one", "other"] (defScope s_law_sum) := ⟨rfl, rfl, rfl, by decide +kernel, rfl, by decide +kernel, by decide +kernel⟩
theorem ok_lsum (T : Txt K mg) : OkD P w K mg base CX0 2 "_law_sum" ["one", "other"] (spL2 K addM) := by
  have GL : OkD P w K mg base CX0 1 "_law_low" ["top", "bottom"] (spLowest K) := ok_llow T
  refine T.d_law_sum.ok sc_lsum (fun vs H Q E h => ?_) (fun f cdv A outer s H vs Q E hr h => ?_)
  · obtain ⟨v, u, m, n, rfl, _⟩ := h
    rfl
  · obtain ⟨v, u, m, n, rfl, ⟨p, rfl, hp⟩, ⟨q, rfl, hq⟩, lm, ln, k⟩ := h
    refine ⟨_, pss_one (ps_ret (pe_callD GL hr pass0 (pa_cons (pe_op op_add (pe_op op_mul (pe_ixc 0 (pv 0)) (pe_ixc 1 (pv 1))) (pe_op op_mul (pe_ixc 0 (pv 1)) (pe_ixc 1 (pv 0)))) (pa_cons (pe_op op_mul (pe_ixc 1 (pv 0)) (pe_ixc 1 (pv 1))) pa_nil)))), ?_⟩
    refine ⟨_, rfl, p, _, _, rfl, hp, rfl, _, rfl, q, _, _, rfl, hq, rfl, _, _, rfl, rfl, .inr (powB ln), _, rfl, q, _, _, rfl, hq, rfl, _, rfl, p, _, _, rfl, hp, rfl, _, _, rfl, rfl, .inr (powB lm), _, _, rfl, rfl,
      _, rfl, p, _, _, rfl, hp, rfl, _, rfl, q, _, _, rfl, hq, rfl, _, _, rfl, rfl, .inr (powB ln), m.1 * 2 ^ n.2 + n.1 * 2 ^ m.2, m.2 + n.2, ?_, ?_⟩
    · rw [Int.pow_add]
      rfl
    · exact k
theorem sc_lless : FnScope ["one", "other"] ["one", "other"] (defScope s_law_less) := ⟨rfl, rfl, rfl, by decide +kernel, rfl, by decide +kernel, by decide +kernel⟩
theorem ok_lless (T : Txt K mg) : OkD P w K mg base CX0 1 "_law_less" ["one", "other"] (spL2b K lessM) := by
  refine T.d_law_less.ok sc_lless (fun vs H Q E h => ?_) (fun f cdv A outer s H vs Q E hr h => ?_)
  · obtain ⟨v, u, m, n, rfl, _⟩ := h
    rfl
  · obtain ⟨v, u, m, n, rfl, ⟨p, rfl, hp⟩, ⟨q, rfl, hq⟩, lm, ln, k⟩ := h
    refine ⟨_, pss_one (ps_ret (pe_cmpR op_lt (pe_op op_mul (pe_ixc 0 (pv 0)) (pe_ixc 1 (pv 1))) (pe_op op_mul (pe_ixc 0 (pv 1)) (pe_ixc 1 (pv 0))) (nomark _))), ?_⟩
    exact ⟨_, rfl, p, _, _, rfl, hp, rfl, _, rfl, q, _, _, rfl, hq, rfl, _, _, rfl, rfl, .inr (powB ln), _, rfl, q, _, _, rfl, hq, rfl, _, rfl, p, _, _, rfl, hp, rfl, _, _, rfl, rfl, .inr (powB lm), _, _, rfl, rfl, k⟩
theorem sc_lgap : FnScope ["one", "other"] ["one", "other"] (defScope s_law_gap) := ⟨rfl, rfl, rfl, by decide +kernel, rfl, by decide +kernel, by decide +kernel⟩
theorem ok_lgap (T : Txt K mg) : OkD P w K mg base CX0 2 "_law_gap" ["one", "other"] (spL2 K gapM) := by
  have GL : OkD P w K mg base CX0 1 "_law_low" ["top", "bottom"] (spLowest K) := ok_llow T
  have GS : OkD P w K mg base CX0 1 "_law_less" ["one", "other"] (spL2b K lessM) := ok_lless T
  refine T.d_law_gap.ok sc_lgap (fun vs H Q E h => ?_) (fun f cdv A outer s H vs Q E hr h => ?_)
  · obtain ⟨v, u, m, n, rfl, _⟩ := h
    rfl
  · obtain ⟨v, u, m, n, rfl, ⟨p, rfl, hp⟩, ⟨q, rfl, hq⟩, lm, ln, k⟩ := h
    refine ⟨_, pss_cons (ps_if (pt_val (pe_callD GS hr pass0 (pa_cons (pv 0) (pa_cons (pv 1) pa_nil))))
      (pss_one (ps_ret (pe_callD GL hr pass0 (pa_cons (pe_op op_sub (pe_op op_mul (pe_ixc 0 (pv 1)) (pe_ixc 1 (pv 0))) (pe_op op_mul (pe_ixc 0 (pv 0)) (pe_ixc 1 (pv 1)))) (pa_cons (pe_op op_mul (pe_ixc 1 (pv 0)) (pe_ixc 1 (pv 1))) pa_nil))))) pss_nil)
      (pss_one (ps_ret (pe_callD GL hr pass0 (pa_cons (pe_op op_sub (pe_op op_mul (pe_ixc 0 (pv 0)) (pe_ixc 1 (pv 1))) (pe_op op_mul (pe_ixc 0 (pv 1)) (pe_ixc 1 (pv 0)))) (pa_cons (pe_op op_mul (pe_ixc 1 (pv 0)) (pe_ixc 1 (pv 1))) pa_nil))))), ?_⟩
    refine ⟨_, rfl, _, rfl, _, _, m, n, rfl, ⟨p, rfl, hp⟩, ⟨q, rfl, hq⟩, lm, ln, _, rfl, ite2 (fun h => ?_) (fun h => ?_)⟩
    · refine ⟨_, rfl, q, _, _, rfl, hq, rfl, _, rfl, p, _, _, rfl, hp, rfl, _, _, rfl, rfl, .inr (powB lm), _, rfl, p, _, _, rfl, hp, rfl, _, rfl, q, _, _, rfl, hq, rfl, _, _, rfl, rfl, .inr (powB ln), _, _, rfl, rfl,
        _, rfl, p, _, _, rfl, hp, rfl, _, rfl, q, _, _, rfl, hq, rfl, _, _, rfl, rfl, .inr (powB ln), n.1 * 2 ^ m.2 - m.1 * 2 ^ n.2, m.2 + n.2, ?_, ?_⟩
      · rw [Int.pow_add]
        rfl
      · intro v' H' hs hm
        exact k v' H' hs (by unfold gapM; rw [if_pos h]; exact hm)
    · refine ⟨_, rfl, p, _, _, rfl, hp, rfl, _, rfl, q, _, _, rfl, hq, rfl, _, _, rfl, rfl, .inr (powB ln), _, rfl, q, _, _, rfl, hq, rfl, _, rfl, p, _, _, rfl, hp, rfl, _, _, rfl, rfl, .inr (powB lm), _, _, rfl, rfl,
        _, rfl, p, _, _, rfl, hp, rfl, _, rfl, q, _, _, rfl, hq, rfl, _, _, rfl, rfl, .inr (powB ln), m.1 * 2 ^ n.2 - n.1 * 2 ^ m.2, m.2 + n.2, ?_, ?_⟩
      · rw [Int.pow_add]
        rfl
      · intro v' H' hs hm
        exact k v' H' hs (by unfold gapM; rw [if_neg h]; exact hm)
end

section
variable {P : Program} {w : World} {K : PySem.W.Frag} {mg : Str → Option Value} {base : Heap}
/-- found and due are one moment -/
def spFrac (K : PySem.W.Frag) : Sp := fun vs H Q _ => ∃ (v u : V) (m : M), vs = [v, u] ∧ Mo K H v m ∧ Mo K H u m ∧ Q (.bl true) H
theorem sc_frac : FnScope ["found", "due", "part"] ["found", "due"] (defScope s_law_fraction) := ⟨rfl, rfl, rfl, by decide +kernel, rfl, by decide +kernel, by decide +kernel⟩
theorem ok_frac (T : Txt K mg) : OkD P w K mg base CX0 1 "_law_fraction" ["found", "due"] (spFrac K) := by
  refine T.d_law_fraction.ok sc_frac (fun vs H Q E h => ?_) (fun f cdv A outer s H vs Q E hr h => ?_)
  · obtain ⟨v, u, m, rfl, _⟩ := h
    rfl
  · obtain ⟨v, u, m, rfl, ⟨p, rfl, hp⟩, ⟨q, rfl, hq⟩, k⟩ := h
    refine ⟨_, pss_cons (ps_if (PW.pt (pw_or (pt_not (pt_val (pe_callB call_isi rfl T.b_isinstance PyProof.Rows.boot_isinstance (pa_cons (pv 0) (pa_cons (pe_bltn (v := .ty "tuple") rfl T.b_tuple PyProof.Rows.boot_tuple rfl) pa_nil)))))
        (pw_or1 (pt_cmpR op_ne (pe_callB call_len_seq rfl T.b_len PySem.boot_len (pa_cons (pv 0) pa_nil)) pe_int (nomark _))))) (pss_one (ps_ret pe_bl)) pss_nil)
      (pss_cons (ps_for PassesOwn.never rfl (pi_tup (pv 0)) (pg_name (i := 2) sc_frac.nd rfl (Or.inl rfl))
        (pss_one (ps_if (PW.pt (pw_or (pt_val (pe_callB call_isi rfl T.b_isinstance PyProof.Rows.boot_isinstance (pa_cons (pv 2) (pa_cons (pe_bltn (v := .ty "bool") rfl T.b_bool PyProof.Rows.boot_bool rfl) pa_nil))))
          (pw_or1 (pt_not (pt_val (pe_callB call_isi rfl T.b_isinstance PyProof.Rows.boot_isinstance (pa_cons (pv 2) (pa_cons (pe_bltn (v := .ty "int") rfl T.b_int PyProof.Rows.boot_int rfl) pa_nil)))))))) (pss_one (ps_ret pe_bl)) pss_nil)))
      (pss_one (ps_ret (pe_cmpR (op_eqT (Room.units0 hr)) (pv 0) (pv 1) (nomark _))))), ?_⟩
    refine ⟨_, rfl, _, "tuple", "tuple", true, rfl, .inr ⟨rfl, _, hp⟩, rfl, _, rfl, ?_⟩
    refine iteF ?_
    refine ⟨_, rfl, p, _, rfl, .inr hp, rfl, _, rfl, ?_⟩
    refine iteNS rfl ?_
    refine ⟨_, rfl, p, rfl, ⟨_, hp⟩, for_tup (K := K) (a := p) (xs := [.int m.1, .int (2 ^ m.2)]) (fun i σ H2 => H2 = H ∧ ∃ x, σ = [some (.ref p), some (.ref q), x]) ⟨rfl, _, rfl⟩ (fun i σ H2 _ ⟨e, _⟩ => by subst e; exact hp) ?_ ?_⟩
    · rintro i x σ H2 hi ⟨rfl, y, rfl⟩
      have hx : ∃ z : Int, x = .int z := by
        match i, hi with
        | 0, hi => exact ⟨_, (Option.some.inj hi).symm⟩
        | 1, hi => exact ⟨_, (Option.some.inj hi).symm⟩
      obtain ⟨z, rfl⟩ := hx
      refine ⟨_, rfl, _, "int", "bool", false, rfl, rfl, rfl, _, rfl, ?_⟩
      refine iteF ?_
      refine ⟨_, rfl, _, "int", "int", true, rfl, rfl, rfl, _, rfl, ?_⟩
      refine iteF ?_
      exact ⟨rfl, _, rfl⟩
    · rintro σ H2 ⟨rfl, y, rfl⟩
      refine ⟨_, rfl, _, rfl, p, q, _, _, rfl, rfl, hp, hq, rfl, rfl, ?_⟩
      rw [eqVs_refl (xs := [.int m.1, .int (2 ^ m.2)]) rfl]
      exact k
end

/-! ### a drawn moment -/
section
variable {P : Program} {w : World} {K : PySem.W.Frag} {mg : Str → Option Value} {base : Heap}
def momN (c : Int) : M := lowN (c / 9 % (6 * 2 ^ (c % 9).toNat)) (c % 9).toNat
def spMoment (K : PySem.W.Frag) : Sp := fun vs H Q _ => ∃ c : Int, vs = [.int c] ∧ ∀ v H', Same H H' → Mo K H' v (momN c) → Q v H'
theorem sc_moment : FnScope ["cell", "bottom", "k"] ["cell"] (defScope s_law_moment) := ⟨rfl, rfl, rfl, by decide +kernel, rfl, by decide +kernel, by decide +kernel⟩
theorem ok_moment (T : Txt K mg) : OkD P w K mg base CX0 2 "_law_moment" ["cell"] (spMoment K) := by
  have GL : OkD P w K mg base CX0 1 "_law_low" ["top", "bottom"] (spLowest K) := ok_llow T
  refine T.d_law_moment.ok sc_moment (fun vs H Q E h => ?_) (fun f cdv A outer s H vs Q E hr h => ?_)
  · obtain ⟨c, rfl, _⟩ := h
    rfl
  · obtain ⟨c, rfl, q⟩ := h
    have c0 : 0 ≤ c % 9 := Int.emod_nonneg _ (by decide)
    have c9 : c % 9 < 9 := Int.emod_lt_of_pos _ (by decide)
    refine ⟨_, pss_cons (ps_set (i := 1) sc_moment.nd rfl (Or.inl rfl) pe_int)
      (pss_cons (ps_for PassesOwn.never rfl (pi_range1 rfl T.b_range (pa_cons (pe_op op_mod (pv 0) pe_int) pa_nil)) (pg_name (i := 2) sc_moment.nd rfl (Or.inl rfl)) (pss_one (ps_set (i := 1) sc_moment.nd rfl (Or.inl rfl) (pe_op op_mul pe_int (pv 1)))))
      (pss_one (ps_ret (pe_callD GL hr pass0 (pa_cons (pe_op op_mod (pe_op op_fdiv (pv 0) pe_int) (pe_op op_mul pe_int (pv 1))) (pa_cons (pv 1) pa_nil)))))), ?_⟩
    refine ⟨_, rfl, _, _, rfl, rfl, (by show (0 : Int) < 9; decide), c % 9, rfl, (by omega), (by omega), for_range (n := (c % 9).toNat) (fun i σ H2 => H2 = H ∧ ∃ x, σ = [some (.int c), some (.int (2 ^ i)), x]) ⟨rfl, _, rfl⟩ ?_ ?_⟩
    · rintro i σ H2 hi ⟨rfl, x, rfl⟩
      refine ⟨_, rfl, _, _, rfl, rfl, .inl ⟨by decide, by decide⟩, rfl, some (.int (0 + i)), ?_⟩
      show [some (V.int c), some (V.int (2 * 2 ^ i)), some (V.int (0 + (i : Int)))] = _
      rw [Int.pow_succ, Int.mul_comm]
    · rintro σ H2 ⟨rfl, x, rfl⟩
      have hp := Rope.pow_pos (c % 9).toNat
      refine ⟨_, rfl, _, _, rfl, rfl, ⟨by decide, by decide⟩, _, rfl, _, _, rfl, rfl, .inl ⟨by decide, by decide⟩, _, _, rfl, rfl, (by show (0 : Int) < 6 * 2 ^ (c % 9).toNat; omega), _, rfl, _, _, rfl, q⟩
end

/-! ### ropeclock.errors: Late -/
section
variable {P : Program} {w : World} {K : PySem.W.Frag} {mg : Str → Option Value} {base : Heap}
def spLate (L : Addr) : Sp := fun vs H Q _ => ∃ (j : Nat) (e : Addr) (i : Nat), vs = [.ref e, .int i] ∧ i < 20 ∧ H e = some (XO j e L none) ∧ ∀ dx, H dx = none → dx ≠ e → Q .non (upd (upd H dx (.xd [("rope", .int i)])) e (XO j e L (some dx)))
theorem sc_late : FnScope ["self", "rope"] ["self", "rope"] (defScope s_Late_init__) := ⟨rfl, rfl, rfl, by decide +kernel, rfl, by decide +kernel, by decide +kernel⟩
theorem late_log : ∀ i : Nat, i < 20 → ((i : Int)).natAbs.log2 < 1920 := by decide +kernel
theorem late_len : ∀ i : Nat, i < 20 → (Str.ofString (toString (i : Int))).length ≤ 100 := by decide +kernel
theorem ok_late {R L f : Addr} {fd : FuncData} (xr : XR K mg R) (x : XL K mg s_Late_init__ R L f fd) : FnOk P w K mg base CX0 1 f fd ["self", "rope"] (spLate L) := by
  refine x.F.ok sc_late (fun vs H Q E h => ?_) (fun cdv A outer s H vs Q E hr h => ?_)
  · obtain ⟨j, e, i, rfl, _⟩ := h
    rfl
  · obtain ⟨j, e, i, rfl, hi, he, q⟩ := h
    refine ⟨_, pss_cons (ps_expr (pe_xinit (pl := _) x.ini rfl xr.m (pa_cons (pv 0) (pa_cons (pe_fstr (pv 1) (by decide +kernel) (by decide +kernel)) pa_nil)))) (pss_one (ps_xfld (pv 0) (pv 1) rfl)), ?_⟩
    refine ⟨_, rfl, _, rfl, i, rfl, late_log i hi, late_len i hi, fun z hz => ⟨j, e, L, none, _, rfl, he, x.ob.k, ?_⟩⟩
    exact ⟨_, rfl, _, rfl, j, e, L, rfl, he, x.set, q⟩
end

/-! ### ropeclock.plans -/
section
variable {P : Program} {w : World} {K : PySem.W.Frag} {mg : Str → Option Value} {base : Heap}
def spLight (K : PySem.W.Frag) : Sp := fun vs H Q _ => ∃ (e : Int) (a : Addr) (ms : List M), vs = [.int e, .ref a] ∧ MoL K H a ms ∧ -1 ≤ e ∧ e < ms.length ∧ ∀ v, Mo K H v (litM ms e) → Q v H
theorem sc_light : FnScope ["end", "moments"] ["end", "moments"] (defScope s_lighting) := ⟨rfl, rfl, rfl, by decide +kernel, rfl, by decide +kernel, by decide +kernel⟩
theorem ok_light (T : Txt K mg) : OkD P w K mg base CX0 1 "lighting" ["end", "moments"] (spLight K) := by
  obtain ⟨aS, mS, tS⟩ := T.v_START
  obtain ⟨tB, mB⟩ := T.v_BEGINNING
  refine T.d_lighting.ok sc_light (fun vs H Q E h => ?_) (fun f cdv A outer s H vs Q E hr h => ?_)
  · obtain ⟨e, a, ms, rfl, _⟩ := h
    rfl
  · obtain ⟨e, a, ms, rfl, ⟨vs, hS, hp⟩, h1, h2, q⟩ := h
    refine ⟨_, pss_cons (ps_if (pt_cmpR op_eq (pv 0) (pe_glob (v := .int (-1)) rfl mB ⟨_, rfl⟩) (nomark _)) (pss_one (ps_ret (pe_glob (v := .ref aS) rfl mS rfl))) pss_nil) (pss_one (ps_ret (pe_ix ix_list (pv 1) (pv 0) (fun _ _ => rfl)))), ?_⟩
    refine ⟨_, rfl, rfl, _, rfl, ite2 (fun h => ?_) (fun h => ?_)⟩
    · have h0 : e = -1 := by
        have := of_decide_eq_true h
        injection this
      subst h0
      exact q _ ⟨aS, rfl, tS.sq H⟩
    · have h0 : e ≠ -1 := fun z => h (by rw [z]; exact decide_eq_true rfl)
      obtain ⟨n, rfl⟩ : ∃ n : Nat, e = n := ⟨e.toNat, by omega⟩
      have hn : n < ms.length := by omega
      have hx : ms[n]? = some ms[n] := by simp [hn]
      obtain ⟨v, hv, hm⟩ := pr_get hp hx
      refine ⟨_, rfl, _, rfl, a, _, _, v, rfl, rfl, hS, atI_nat hv, q v ?_⟩
      have : litM ms (n : Int) = ms[n] := by
        unfold litM
        rw [if_neg h0, Int.toNat_natCast, List.getD_eq_getElem?_getD, hx]; rfl
      rw [this]; exact hm
/-- out_of(number, rope, moments) -/
def spOut (K : PySem.W.Frag) (mg : Str → Option Value) : Sp := fun vs H Q E => ∃ (v : V) (a : Addr) (ms : List M) (r : Tau), vs = [.int (ms.length : Nat), v, .ref a] ∧ Ta K H v r ∧ MoL K H a ms ∧ TauOk ms.length r ∧ GdL ms ∧ ms.length < 20 ∧
  (∀ m, outR ms r = some m → ∀ v' H', Same H H' → Mo K H' v' m → Q v' H') ∧ (outR ms r = none → ∀ L dx H', mg "Late" = some (.ref L) → Same H H' → H dx = none → H' dx = some (.xd [("rope", .int (ms.length : Nat))]) → E (.ref L) (some dx) H')
theorem sc_out : FnScope ["number", "rope", "moments", "one", "other"] ["number", "rope", "moments"] (defScope s_out_of) := ⟨rfl, rfl, rfl, by decide +kernel, rfl, by decide +kernel, by decide +kernel⟩
theorem gd_small {k : Nat} {m : M} (h : Gd k m) (hk : k ≤ 40) : Small m := h.small hk
theorem gap_small {k : Nat} {m n : M} (hm : Gd k m) (hn : Gd k n) (hk : k ≤ 40) : Small (gapM m n) := by
  have h1 := (hm.mono hk).hi
  have h2 := (hn.mono hk).hi
  have e1 := Nat.le_trans hm.e hk
  have e2 := Nat.le_trans hn.e hk
  have z := vl_gap (N := 40) e1 e2
  have l1 := vl_nonneg (N := 40) hm.lo
  have l2 := vl_nonneg (N := 40) hn.lo
  have ge := gap_le m n
  have hk' : (gapM m n).2 ≤ 40 := by omega
  have g0 : 0 ≤ vl 40 (gapM m n) := by rw [z]; split <;> omega
  have g1 : vl 40 (gapM m n) ≤ 40 * 2 ^ 40 := by rw [z]; split <;> omega
  exact Gd.small (k := 40) ⟨hk', nonneg_vl g0, g1, canon_gap m n⟩ (Nat.le_refl _)
theorem ok_out (T : Txt K mg) : OkD P w K mg base (CXE P w) 4 "out_of" ["number", "rope", "moments"] (spOut K mg) := by
  have GL : OkD P w K mg base CX0 1 "lighting" ["end", "moments"] (spLight K) := ok_light T
  have PM : OkD P w K mg base CX0 3 "mean_and_half" ["one", "other"] (sp2 K meanM) := ok_mean T
  have PH : OkD P w K mg base CX0 3 "hour_behind" ["one"] (sp1 K hourM) := ok_hour T
  have PE' : OkD P w K mg base CX0 3 "earlier" ["one", "other"] (sp2b K lessM) := ok_earlier T
  have PB : OkD P w K mg base CX0 3 "between" ["one", "other"] (sp2 K gapM) := ok_between T
  obtain ⟨aH, mH, tH⟩ := T.v_HOUR
  obtain ⟨R, L, fI, fdI, xr, xl⟩ := T.e_Late
  have FI : FnOk P w K mg base CX0 1 fI fdI ["self", "rope"] (spLate L) := ok_late xr xl
  refine T.d_out_of.okX sc_out (fun vs H Q E h => ?_) (fun f cdv A outer s H vs Q E hr h => ?_)
  · obtain ⟨v, a, ms, r, rfl, _⟩ := h
    rfl
  · obtain ⟨v, a, ms, r, rfl, ⟨p, rfl, hp⟩, hm, hr', hg, hl, q, qe⟩ := h
    have r1 : Room 1 _ := hr.mono (by decide)
    have r2 : Room (1 + 1) _ := hr.mono (by decide)
    refine ⟨_, pss_cons (ps_set (i := 3) sc_out.nd rfl (Or.inl rfl) (pe_callD GL r1 pass0 (pa_cons (pe_ixc 0 (pv 1)) (pa_cons (pv 2) pa_nil))))
      (pss_cons (ps_if (pt_cmpR op_isN (pe_ixc 1 (pv 1)) pe_non (nomark _)) (pss_one (ps_ret (pe_callD PH hr pass0 (pa_cons (pv 3) pa_nil)))) pss_nil)
      (pss_cons (ps_set (i := 4) sc_out.nd rfl (Or.inl rfl) (pe_callD GL r1 pass0 (pa_cons (pe_ixc 1 (pv 1)) (pa_cons (pv 2) pa_nil))))
      (pss_cons (ps_if (pt_not (pt_val (pe_callD PE' hr pass0 (pa_cons (pe_callD PB hr pass0 (pa_cons (pv 3) (pa_cons (pv 4) pa_nil))) (pa_cons (pe_glob (v := .ref aH) rfl mH rfl) pa_nil)))))
        (pss_one (ps_raise (pe_xmake xl.mk' FI r2 rfl xl.m xl.b pass0 (pa_cons (pv 0) pa_nil)))) pss_nil)
      (pss_one (ps_ret (pe_callD PM hr pass0 (pa_cons (pv 3) (pa_cons (pv 4) pa_nil)))))))), ?_⟩
    have hk : ms.length ≤ 40 := by omega
    refine ⟨_, rfl, p, _, _, rfl, hp, rfl, _, rfl, r.1, a, ms, rfl, hm, hr'.1, hr'.2.1, fun v1 hv1 => ?_⟩
    have g1 := hg.lit hr'.2.1
    refine ⟨_, rfl, p, _, _, rfl, hp, rfl, rfl, _, rfl, ite2 (fun h => ?_) (fun h => ?_)⟩
    · have h0 : r.2 = none := by
        have := of_decide_eq_true h
        cases e : r.2 with
        | none => rfl
        | some o => rw [e] at this; cases this
      refine ⟨_, rfl, v1, _, rfl, hv1, gd_small g1 hk, q _ ?_⟩
      unfold outR; rw [h0]
    · obtain ⟨o, ho⟩ : ∃ o, r.2 = some o := by
        cases e : r.2 with
        | none => rw [e] at h; exact absurd (decide_eq_true rfl) h
        | some o => exact ⟨o, rfl⟩
      have ho' := hr'.2.2 o ho
      have g2 := hg.lit ho'.2
      rw [ho] at hp
      refine ⟨_, rfl, p, _, _, rfl, hp, rfl, _, rfl, o, a, ms, rfl, hm, by have := hr'.1; omega, ho'.2, fun v2 hv2 => ?_⟩
      have gs : Small (gapM (litM ms r.1) (litM ms o)) := gap_small g1 g2 hk
      refine ⟨_, rfl, _, rfl, v1, v2, _, _, rfl, hv1, hv2, gd_small g1 hk, gd_small g2 hk, fun v3 H3 s3 hv3 => ?_⟩
      refine ⟨v3, _, _, (1, 0), rfl, hv3, ⟨aH, rfl, tH.sq H3⟩, gs, ⟨by show (1 : Int).natAbs < 2 ^ 1000; exact Nat.one_lt_two_pow (by decide), by decide⟩, _, rfl, ite2 (fun h2 => ?_) (fun h2 => ?_)⟩
      · have h3 : outR ms r = none := by
          unfold outR
          rw [ho]
          show (if lessM (gapM (litM ms r.1) (litM ms o)) (1, 0) = true then _ else none) = _
          rw [if_neg]
          intro z
          rw [z] at h2
          cases h2
        refine ⟨_, rfl, by show 1 ≤ 100; decide, fun e he => ⟨_, e, ms.length, rfl, hl, upd_same, fun dx hd hne => ⟨rfl, e, L, some dx, rfl, upd_same, xl.ob.k, ?_⟩⟩⟩
        rw [upd_ne hne] at hd
        refine qe h3 L dx _ xl.m (s3.trans fun b u z => ?_) (s3.free hd) ?_
        · have z1 : b ≠ e := ne_of_none z he
          have z2 : b ≠ dx := ne_of_none z hd
          rw [del_ne z1, upd_ne z1, upd_ne z2, upd_ne z1]; exact z
        · rw [del_ne hne, upd_ne hne, upd_same]
      · have h3 : outR ms r = some (meanM (litM ms r.1) (litM ms o)) := by
          unfold outR
          rw [ho]
          show (if lessM (gapM (litM ms r.1) (litM ms o)) (1, 0) = true then _ else none) = _
          rw [if_pos]
          cases z : lessM (gapM (litM ms r.1) (litM ms o)) (1, 0) with
          | true => rfl
          | false => rw [z] at h2; exact absurd rfl h2
        refine ⟨_, rfl, _, rfl, v1, v2, _, _, rfl, hv1.same s3, hv2.same s3, gd_small g1 hk, gd_small g2 hk, fun v4 H4 s4 hv4 => q _ h3 v4 H4 (s3.trans s4) hv4⟩
end

/-! ### in_order -/
theorem bootSorted : bootBuiltins "sorted" = some (.builtin "sorted") := by decide +kernel
section
variable {P : Program} {w : World} {K : PySem.W.Frag} {mg : Str → Option Value} {base : Heap} {Tb : Addr}
def spOrd (K : PySem.W.Frag) (Tb : Addr) : Sp := fun vs H Q _ => ∃ (a : Addr) (ms : List M), vs = [.ref a] ∧ MoL K H a ms ∧ 0 < ms.length ∧ ms.length < 64 ∧ (∀ m ∈ ms, Small m) ∧ TabO H Tb ∧
  ∀ (D : Addr) (H' : Hp) (us : List V) (zs : List M) (N : Nat), But Tb H H' → TabO H' Tb → H D = none → H' D = some (.lst us) → Paired (Mo K H') us zs → zs.Perm ms → (∀ m ∈ ms, m.2 ≤ N) → (∃ m ∈ ms, N = m.2) → zs.Pairwise (fun m n => vl N m ≤ vl N n) → Q (.ref D) H'
theorem sc_order : FnScope ["moments", "bottom"] ["moments"] (defScope s_in_order) := ⟨rfl, rfl, rfl, by decide +kernel, rfl, by decide +kernel, by decide +kernel⟩
theorem pow_le_iff {m n : Nat} (h : (2 : Int) ^ m ≤ 2 ^ n) : m ≤ n := by
  rcases Nat.lt_or_ge n m with z | z
  · exact absurd (Int.pow_lt_pow_of_lt (a := 2) (by decide) z) (by omega)
  · exact z
def OrdR (K : PySem.W.Frag) (H : Hp) (N : Nat) (m : M) (p : Int × V) : Prop := p.1 = overM m N ∧ Mo K H p.2 m
theorem ord_zip {H : Hp} {N : Nat} : ∀ {vs : List V} {ms : List M}, Paired (Mo K H) vs ms → Paired (OrdR K H N) ms ((ms.map fun m => overM m N).zip vs)
  | _, _, .nil => .nil
  | _, _, .cons r t => .cons ⟨rfl, r⟩ (ord_zip t)
theorem ord_snd {H : Hp} {N : Nat} : ∀ {zs : List M} {ps : List (Int × V)}, Paired (OrdR K H N) zs ps → Paired (Mo K H) (ps.map Prod.snd) zs
  | _, _, .nil => .nil
  | _, _, .cons r t => .cons r.2 (ord_snd t)
theorem ord_fst {H : Hp} {N : Nat} : ∀ {zs : List M} {ps : List (Int × V)}, Paired (OrdR K H N) zs ps → zs.map (fun m => overM m N) = ps.map Prod.fst
  | _, _, .nil => rfl
  | _, _, .cons r t => by rw [List.map_cons, List.map_cons, ord_fst t, r.1]
theorem ok_order (T : Txt K mg) (U : Tab K mg Tb) (Bm : BMod mg base) : OkD P w K mg base CX0 5 "in_order" ["moments"] (spOrd K Tb) := by
  have GO : OkD P w K mg base CX0 1 "top_over" ["moment", "bottom"] (spOver K) := ok_over T
  obtain ⟨c, hU, hC⟩ := U.c
  refine T.d_in_order.okT hU sc_order (fun vs H Q E h => ?_) (fun f A outer s H vs Q E hr h => ?_)
  · obtain ⟨a, ms, rfl, _⟩ := h
    rfl
  · obtain ⟨a, ms, rfl, ⟨vs, hS, hp⟩, h0, h64, hsm, hT, q⟩ := h
    have hvl := pr_len hp
    have r1 := fun env => ((hr.in1 (k := 3)).in1 (k := 2)).deeper (k := 1) env
    have B : BlkScope (cxOf CX0 P w K mg base ["moments", "bottom"] "in_order" (defScope s_in_order) f (.ref c) A outer s H E).nox ["moment"] [none] { kind := .function, names := [(".0", .local), ("moment", .local)], isGenerator := false, isCoroutine := false, more := [] } [] := by
      refine ⟨rfl, by decide +kernel, by decide +kernel, rfl, fun x c h => ?_, fun x h => ?_, rfl, fun i j x h1 h2 => ?_⟩
      · cases h
      · rcases h with h | h <;> (have h := look_mem (l := ([(".0", .local), ("moment", .local)] : List (Str × NameKind))) h; simp at h)
      · match i, h1 with
        | 0, h1 => cases h1
    have L : LamScope (cxOf CX0 P w K mg base ["moments", "bottom"] "in_order" (defScope s_in_order) f (.ref c) A outer s H E).nox "moment" ["bottom"] [some 1] { kind := .function, names := [("moment", .local), ("bottom", .free), ("top_over", .globalImplicit)], isGenerator := false, isCoroutine := false, more := [] } [("bottom", s.heap.objs.size + 1)] := by
      refine ⟨rfl, rfl, rfl, by decide +kernel, rfl, rfl, fun x c h => ?_, fun x h => ?_, rfl, fun i j x h1 h2 => ?_⟩
      · have h := look_mem h
        simp only [List.mem_cons, Prod.mk.injEq, List.not_mem_nil, or_false] at h
        obtain ⟨rfl, rfl⟩ := h
        rfl
      · have e : x = "bottom" := by
          rcases h with h | h
          · have h := look_mem (l := ([("moment", .local), ("bottom", .free), ("top_over", .globalImplicit)] : List (Str × NameKind))) h
            simp at h
          · have h := look_mem (l := ([("moment", .local), ("bottom", .free), ("top_over", .globalImplicit)] : List (Str × NameKind))) h
            simpa using h
        subst e
        exact ⟨_, rfl⟩
      · match i, h1, h2 with
        | 0, h1, h2 =>
          cases h1
          cases h2
          exact ⟨rfl, (show some NameKind.cell ≠ some NameKind.local from by decide), .inr (.inl rfl), rfl⟩
    refine ⟨_, pss_cons (ps_set (i := 1) sc_order.nd rfl (Or.inr rfl) (pe_maxD rfl T.b_max PyProof.Rows.boot_max hr.hd (pe_comp rfl B (pi_list (pv 0)) (fun C s0 H0 fp => pg_name (i := 0) (by decide +kernel : List.Nodup (["moment"] : List Str)) rfl (Or.inl rfl)) (fun C s0 H0 fp => pifs_nil) (fun C s0 H0 fp => pe_ixcK 1 (pv 0))) pe_int))
      (pss_one (ps_ret (pe_sortK (P := Tb) (c := c) rfl T.b_sorted bootSorted Bm hC rfl hr.hd hr.depth L rfl (fun _ _ _ _ => rfl) (pv 0) (fun f' c' s0 H0 => pe_callD GO (r1 _) pass0 (pa_cons (pv 0) (pa_cons (pv 1) pa_nil)))))), ?_⟩
    refine ⟨_, rfl, a, rfl, ⟨vs, hS⟩, fun D hD => ?_⟩
    refine comp_list (K := K) (a := a) (xs := vs) (fun j σ' H' => H' D = some (.lst ((ms.take j).map fun m => V.int (2 ^ m.2))) ∧ Same H H' ∧ ∃ x, σ' = [x])
      ⟨by rw [List.take_zero]; exact upd_same, same_upd hD, _, rfl⟩ (fun j σ' H' _ ⟨_, sH, _⟩ => sH.seq hS) ?_ ?_
    · rintro j x σ' H' hj ⟨hD', sH, x2, rfl⟩
      obtain ⟨m, hm1, p, rfl, hpt⟩ := pr_get' hp hj
      refine ⟨_, rfl, p, _, _, rfl, sH.tup hpt, rfl, _, hD', ?_, ?_, sH.upd hD, _, rfl⟩
      · rw [List.length_map]
        exact small1000 (by rw [List.length_take]; omega)
      · rw [upd_same, take_snoc hm1, List.map_append]; rfl
    · rintro σ' H3 ⟨hD3, s3, x2, rfl⟩
      rw [List.take_of_length_le (by omega)] at hD3
      refine ⟨D, ms.map fun m => 2 ^ m.2, rfl, SqL.of (by rw [hD3, List.map_map]; rfl), by rw [List.length_map]; exact h0, fun M hM hle => ?_⟩
      obtain ⟨m0, hm0, rfl⟩ := List.mem_map.mp hM
      have hN : ∀ m ∈ ms, m.2 ≤ m0.2 := fun m hm => pow_le_iff (hle _ (List.mem_map.mpr ⟨m, hm, rfl⟩))
      refine ⟨_, rfl, a, vs, ms.map fun m => overM m m0.2, rfl, s3.seq hS, by omega, by rw [List.length_map, hvl], hT.same s3, fun H4 bu T4 => ⟨fun i v k hv hk => ?_, fun ps D' hpm hso hD4 => ?_⟩⟩
      · obtain ⟨m, hm, hmo⟩ := pr_get' hp hv
        rw [List.getElem?_map, hm] at hk
        cases hk
        have hmm := List.mem_of_getElem? hm
        have g3 : But Tb H H4 := (s3.but).trans bu
        have hmo4 : Mo K H4 v m := by
          obtain ⟨p, rfl, hpt⟩ := hmo
          refine ⟨p, rfl, ?_⟩
          obtain ⟨qs, hTb, _⟩ := hT
          exact g3.tupT hTb hpt
        exact ⟨_, rfl, _, rfl, v, m, m0.2, rfl, hmo4, hsm m hmm, hN m hmm, (hsm m0 hm0).2, rfl, rfl⟩
      · have g3 : But Tb H H4 := (s3.but).trans bu
        have hH : H D' = none := by
          cases e : H D' with
          | none => rfl
          | some o =>
            by_cases hb : D' = Tb
            · obtain ⟨qs, hTb, _⟩ := T4
              rw [hb, hTb] at hD4; cases hD4
            · rw [g3 _ _ hb e] at hD4; cases hD4
        have s5 := same_upd (o := .lst (ps.map Prod.snd)) hD4
        have hp4 : Paired (Mo K H4) vs ms := pr_mono (fun v m hmo => by
          obtain ⟨p, rfl, hpt⟩ := hmo
          obtain ⟨qs, hTb, _⟩ := hT
          exact ⟨p, rfl, g3.tupT hTb hpt⟩) hp
        obtain ⟨zs, pz, hz⟩ := perm_pair hpm (ord_zip (N := m0.2) hp4)
        refine q D' _ (ps.map Prod.snd) zs m0.2 (g3.trans s5.but) (T4.same s5) hH upd_same (pr_mono (fun _ _ z => z.same s5) (ord_snd hz)) pz hN ⟨m0, hm0, rfl⟩ ?_
        have o' : (ps.map Prod.fst).Pairwise (fun a b => a ≤ b) := List.pairwise_map.mpr (hso.imp fun h => h)
        rw [← ord_fst hz] at o'
        exact List.pairwise_map.mp o'
end

/-! ### _law_new_moments, _law_put_in, _law_reached, _law_most -/
section
variable {P : Program} {w : World} {K : PySem.W.Frag} {mg : Str → Option Value} {base : Heap}
def newsJ (row : List M) (i j : Nat) : List M := addM (row.getD i (0, 0)) (1, 0) :: ((List.range j).filterMap fun j => if lessM (gapM (row.getD i (0, 0)) (row.getD (i + j) (0, 0))) (1, 0) = true then some (meanM (row.getD i (0, 0)) (row.getD (i + j) (0, 0))) else none)
theorem newsJ_all (row : List M) (i : Nat) : newsJ row i (row.length - i) = newsI row i := rfl
theorem newsJ_succ (row : List M) (i j : Nat) : newsJ row i (j + 1) = newsJ row i j ++ (if lessM (gapM (row.getD i (0, 0)) (row.getD (i + j) (0, 0))) (1, 0) = true then [meanM (row.getD i (0, 0)) (row.getD (i + j) (0, 0))] else []) := by
  unfold newsJ
  rw [List.range_succ, List.filterMap_append, List.cons_append]
  congr 2
  rw [List.filterMap_cons]
  by_cases h : lessM (gapM (row.getD i (0, 0)) (row.getD (i + j) (0, 0))) (1, 0) = true
  · rw [if_pos h, if_pos h]; rfl
  · rw [if_neg h, if_neg h]; rfl
theorem newsJ_len (row : List M) (i j : Nat) : (newsJ row i j).length ≤ j + 1 := by
  unfold newsJ
  rw [List.length_cons]
  have := List.length_filterMap_le (fun j => if lessM (gapM (row.getD i (0, 0)) (row.getD (i + j) (0, 0))) (1, 0) = true then some (meanM (row.getD i (0, 0)) (row.getD (i + j) (0, 0))) else none) (List.range j)
  rw [List.length_range] at this
  omega
theorem newsP_len (row : List M) (h : row.length ≤ 10) : ∀ i, ((List.range i).flatMap (newsI row)).length ≤ 11 * i
  | 0 => by simp
  | i + 1 => by
    rw [List.range_succ, List.flatMap_append, List.length_append]
    have h1 := newsP_len row h i
    have h2 := newsJ_len row i (row.length - i)
    rw [newsJ_all] at h2
    have e : (List.flatMap (newsI row) [i]) = newsI row i := by simp
    rw [e]
    omega
def spNewm (K : PySem.W.Frag) : Sp := fun vs H Q _ => ∃ (a : Addr) (ms : List M), vs = [.ref a] ∧ MoL K H a ms ∧ (∀ m ∈ ms, m.2 ≤ 20) ∧ ms.length ≤ 10 ∧
  ∀ l H' us, Same H H' → H l = none → H' l = some (.lst us) → Paired (Mo K H') us (newsM ms) → Q (.ref l) H'
theorem sc_newm : FnScope ["row", "found", "i", "j", "both"] ["row"] (defScope s_law_new_moments) := ⟨rfl, rfl, rfl, by decide +kernel, rfl, by decide +kernel, by decide +kernel⟩
theorem ok_newm (T : Txt K mg) : OkD P w K mg base CX0 3 "_law_new_moments" ["row"] (spNewm K) := by
  have GL : OkD P w K mg base CX0 1 "_law_low" ["top", "bottom"] (spLowest K) := ok_llow T
  have GS : OkD P w K mg base CX0 2 "_law_sum" ["one", "other"] (spL2 K addM) := ok_lsum T
  have GE : OkD P w K mg base CX0 1 "_law_less" ["one", "other"] (spL2b K lessM) := ok_lless T
  have GG : OkD P w K mg base CX0 2 "_law_gap" ["one", "other"] (spL2 K gapM) := ok_lgap T
  refine T.d_law_new_moments.ok sc_newm (fun vs H Q E h => ?_) (fun f cdv A outer s H vs Q E hr h => ?_)
  · obtain ⟨a, ms, rfl, _⟩ := h
    rfl
  · obtain ⟨a, ms, rfl, ⟨vs, hS, hp⟩, hlo, hl, q⟩ := h
    have r1 : Room 1 _ := hr.mono (by decide)
    refine ⟨_, (pss_cons (ps_set (i := 1) sc_newm.nd rfl (Or.inl rfl) (pe_lst pa_nil)) (pss_cons (ps_for PassesOwn.never rfl (pi_range1 rfl T.b_range (pa_cons (pe_callB call_len_seq rfl T.b_len PySem.boot_len (pa_cons (pv 0) pa_nil)) pa_nil)) (pg_name (i := 2) sc_newm.nd rfl (Or.inl rfl)) (pss_cons (ps_expr (pe_bm PySem.F.plainAttrs_list PySem.F.slot_list_append PySem.F.type_list_append mt_append (pv 1) (pa_cons (pe_callD GS hr pass0 (pa_cons (pe_ix ix_list (pv 0) (pv 2) (fun _ _ => rfl)) (pa_cons (pe_tup (pa_cons pe_int (pa_cons pe_int pa_nil))) pa_nil))) pa_nil))) (pss_one (ps_for PassesOwn.never rfl (pi_range2 rfl T.b_range (pa_cons (pv 2) (pa_cons (pe_callB call_len_seq rfl T.b_len PySem.boot_len (pa_cons (pv 0) pa_nil)) pa_nil))) (pg_name (i := 3) sc_newm.nd rfl (Or.inl rfl)) (pss_one (ps_if (pt_val (pe_callD GE r1 pass0 (pa_cons (pe_callD GG hr pass0 (pa_cons (pe_ix ix_list (pv 0) (pv 2) (fun _ _ => rfl)) (pa_cons (pe_ix ix_list (pv 0) (pv 3) (fun _ _ => rfl)) pa_nil))) (pa_cons (pe_tup (pa_cons pe_int (pa_cons pe_int pa_nil))) pa_nil)))) (pss_cons (ps_set (i := 4) sc_newm.nd rfl (Or.inl rfl) (pe_callD GS hr pass0 (pa_cons (pe_callD GS hr pass0 (pa_cons (pe_ix ix_list (pv 0) (pv 2) (fun _ _ => rfl)) (pa_cons (pe_ix ix_list (pv 0) (pv 3) (fun _ _ => rfl)) pa_nil))) (pa_cons (pe_tup (pa_cons pe_int (pa_cons pe_int pa_nil))) pa_nil)))) (pss_one (ps_expr (pe_bm PySem.F.plainAttrs_list PySem.F.slot_list_append PySem.F.type_list_append mt_append (pv 1) (pa_cons (pe_callD GL r1 pass0 (pa_cons (pe_ixc 0 (pv 4)) (pa_cons (pe_op op_mul pe_int (pe_ixc 1 (pv 4))) pa_nil))) pa_nil))))) pss_nil)))))) (pss_one (ps_ret (pv 1))))), ?_⟩
    refine ⟨by show 0 ≤ sizeLine; exact Nat.zero_le _, fun l hl0 => ?_⟩
    have s0 : Same H (upd H l (.lst [])) := same_upd hl0
    have hvl := pr_len hp
    have two : (2 : Nat) ≤ sizeLine := by decide
    have at_ : ∀ j, j < vs.length → ∃ v, vs[j]? = some v ∧ Mo K H v (ms.getD j (0, 0)) ∧ (ms.getD j (0, 0)).2 ≤ 20 := fun j hj => by
      have hx : ms[j]? = some ms[j] := by simp [← hvl, hj]
      obtain ⟨v, hv, hm⟩ := pr_get hp hx
      rw [List.getD_eq_getElem?_getD, hx]
      exact ⟨v, hv, hm, hlo _ (List.mem_of_getElem? hx)⟩
    refine ⟨_, rfl, a, _, rfl, .inl (s0.seq hS), _, rfl, (by omega), (by omega), for_range (n := vs.length) (fun i σ H2 => ∃ us, H2 l = some (.lst us) ∧ Paired (Mo K H2) us ((List.range i).flatMap (newsI ms)) ∧ Same H H2 ∧ ∃ x y z, σ = [some (.ref a), some (.ref l), x, y, z])
      ⟨[], upd_same, .nil, s0, _, _, _, rfl⟩ ?_ ?_⟩
    · rintro i σ H2 hi ⟨us, hl2, hm, sm, x1, y1, z1, rfl⟩
      have e4 : (0 + (i : Int)) = (i : Int) := by omega
      rw [e4]
      obtain ⟨vi, hvi, hmi, lmi⟩ := at_ i hi
      have hul : us.length ≤ 110 := by
        have := newsP_len ms hl i
        have := pr_len hm
        omega
      refine ⟨_, rfl, .inl ⟨rfl, _, SqL.of hl2⟩, _, rfl, _, rfl, a, _, _, vi, rfl, rfl, sm.seq hS, atI_nat hvi, two, fun p5 hp5 => ?_⟩
      have s5 := same_upd (o := .tup [.int 1, .int 1]) hp5
      refine ⟨_, _, _, (1, 0), rfl, (hmi.same sm).same s5, Mo.new rfl rfl, by show _ ≤ 40; omega, by show 0 ≤ 40; decide, fun v' H6 s6 hv' => ⟨l, us, v', rfl, rfl, s6 _ _ (s5 _ _ hl2), small1000 (by omega), ?_⟩⟩
      have s56 := s5.trans s6
      have hl6 := s56 _ _ hl2
      have gr := grow_lst (ys := us ++ [v']) hl6
      have sm6 : Same H (upd H6 l (.lst (us ++ [v']))) := (sm.trans s56).upd hl0
      refine ⟨_, rfl, _, rfl, a, _, rfl, .inl (sm6.seq hS), _, _, rfl, ⟨by omega, by omega, by omega, by omega⟩, for_rng (lo := (i : Int)) (n := ms.length - i) (by omega) (fun j σ H3 => ∃ us3, H3 l = some (.lst us3) ∧ Paired (Mo K H3) us3 ((List.range i).flatMap (newsI ms) ++ newsJ ms i j) ∧ Same H H3 ∧ ∃ y z, σ = [some (.ref a), some (.ref l), some (.int (i : Nat)), y, z])
        ⟨us ++ [v'], upd_same, pr_snoc (pr_mono (fun _ _ z => (z.same s56).grow gr) hm) (hv'.grow gr), sm6, _, _, rfl⟩ ?_ ?_⟩
      · rintro j σ H3 hj ⟨us3, hl3, hm3, sm3, y3, z3, rfl⟩
        have ej : (i : Int) + (j : Int) = ((i + j : Nat) : Int) := by omega
        rw [ej]
        obtain ⟨vj, hvj, hmj, lmj⟩ := at_ (i + j) (by omega)
        have hul3 : us3.length ≤ 200 := by
          have h1 := newsP_len ms hl i
          have h2 := pr_len hm3
          have h3 := newsJ_len ms i j
          rw [List.length_append] at h2
          omega
        refine ⟨_, rfl, _, rfl, a, _, _, vi, rfl, rfl, sm3.seq hS, atI_nat hvi, _, rfl, _, rfl, a, _, _, vj, rfl, rfl, sm3.seq hS, atI_nat hvj, _, _, _, _, rfl, hmi.same sm3, hmj.same sm3, by show _ ≤ 40; omega, by show _ ≤ 40; omega, fun v7 H7 s7 hv7 => ⟨two, fun p8 hp8 => ?_⟩⟩
        have s8 := same_upd (o := .tup [.int 1, .int 1]) hp8
        have lg : Lo (gapM (ms.getD i (0, 0)) (ms.getD (i + j) (0, 0))) := by
          have := gap_le (ms.getD i (0, 0)) (ms.getD (i + j) (0, 0))
          show _ ≤ 40
          omega
        have s78 := s7.trans s8
        refine ⟨_, _, _, (1, 0), rfl, hv7.same s8, Mo.new rfl rfl, lg, by show 0 ≤ 40; decide, _, rfl, ite2 (fun h => ?_) (fun h => ?_)⟩
        · refine ⟨_, rfl, _, rfl, a, _, _, vi, rfl, rfl, (sm3.trans s78).seq hS, atI_nat hvi, _, rfl, _, rfl, a, _, _, vj, rfl, rfl, (sm3.trans s78).seq hS, atI_nat hvj, _, _, _, _, rfl, hmi.same (sm3.trans s78), hmj.same (sm3.trans s78), by show _ ≤ 40; omega, by show _ ≤ 40; omega, fun v9 H9 s9 hv9 => ⟨two, fun p10 hp10 => ?_⟩⟩
          have s10 := same_upd (o := .tup [.int 1, .int 1]) hp10
          have l1 : Lo (addM (ms.getD i (0, 0)) (ms.getD (i + j) (0, 0))) := by
            have := add_le (ms.getD i (0, 0)) (ms.getD (i + j) (0, 0))
            show _ ≤ 40
            omega
          refine ⟨_, _, _, (1, 0), rfl, hv9.same s10, Mo.new rfl rfl, l1, by show 0 ≤ 40; decide, fun v11 H11 s11 hv11 => ?_⟩
          obtain ⟨pb, rfl, hb⟩ := hv11
          have s311 := s78.trans (s9.trans (s10.trans s11))
          refine ⟨_, rfl, .inl ⟨rfl, _, SqL.of (s311 _ _ hl3)⟩, _, rfl, pb, _, _, rfl, hb, rfl, _, rfl, pb, _, _, rfl, hb, rfl, _, _, rfl, rfl, .inl ⟨by decide, by decide⟩, (addM (addM (ms.getD i (0, 0)) (ms.getD (i + j) (0, 0))) (1, 0)).1, (addM (addM (ms.getD i (0, 0)) (ms.getD (i + j) (0, 0))) (1, 0)).2 + 1, ?_, fun v12 H12 s12 hv12 => ⟨l, us3, v12, rfl, rfl, s12 _ _ (s311 _ _ hl3), small1000 (by omega), ?_⟩⟩
          · rw [Int.pow_succ, Int.mul_comm]
            rfl
          · have s312 := s311.trans s12
            have gr3 := grow_lst (ys := us3 ++ [v12]) (s312 _ _ hl3)
            refine ⟨us3 ++ [v12], upd_same, ?_, (sm3.trans s312).upd hl0, _, _, rfl⟩
            rw [newsJ_succ, if_pos h, ← List.append_assoc]
            exact pr_snoc (pr_mono (fun _ _ z => (z.same s312).grow gr3) hm3) (hv12.grow gr3)
        · refine ⟨us3, s78 _ _ hl3, ?_, sm3.trans s78, _, _, rfl⟩
          rw [newsJ_succ, if_neg h, List.append_nil]
          exact pr_mono (fun _ _ z => z.same s78) hm3
      · rintro σ H3 ⟨us3, hl3, hm3, sm3, y3, z3, rfl⟩
        refine ⟨us3, hl3, ?_, sm3, _, _, _, rfl⟩
        rw [List.range_succ, List.flatMap_append]
        have e : (List.flatMap (newsI ms) [i]) = newsI ms i := by simp
        rw [e, ← newsJ_all]
        exact hm3
    · rintro σ H2 ⟨us, hl2, hm, sm, x1, y1, z1, rfl⟩
      rw [hvl] at hm
      exact ⟨_, rfl, q l H2 us sm hl0 hl2 hm⟩
theorem prt {α : Type} {R : V → α → Prop} : ∀ {vs : List V} {xs : List α} (n : Nat), Paired R vs xs → Paired R (vs.take n) (xs.take n)
  | _, _, 0, _ => by rw [List.take_zero, List.take_zero]; exact .nil
  | _, _, _ + 1, .nil => .nil
  | _, _, n + 1, .cons r t => .cons r (prt n t)
theorem prd {α : Type} {R : V → α → Prop} : ∀ {vs : List V} {xs : List α} (n : Nat), Paired R vs xs → Paired R (vs.drop n) (xs.drop n)
  | _, _, 0, h => h
  | _, _, _ + 1, .nil => .nil
  | _, _, n + 1, .cons _ t => prd n t
/-- _law_put_in(moments, moment) -/
def spPut (K : PySem.W.Frag) : Sp := fun vs H Q _ => ∃ (l : Addr) (x : V) (ws : List V) (ts : List M) (m : M), vs = [.ref l, x] ∧ H l = some (.lst ws) ∧ Paired (Mo K H) ws ts ∧ Mo K H x m ∧ (∀ t ∈ ts, t.2 ≤ 20) ∧ m.2 ≤ 20 ∧ ts.length ≤ 900 ∧
  ∀ H' ws', H' l = some (.lst ws') → Paired (Mo K H') ws' (insM ts m) → But l H H' → (∀ b, b ≠ l → H b = none → H' b = none) → Q .non H'
theorem sc_put : FnScope ["moments", "moment", "at"] ["moments", "moment"] (defScope s_law_put_in) := ⟨rfl, rfl, rfl, by decide +kernel, rfl, by decide +kernel, by decide +kernel⟩
theorem ok_put (T : Txt K mg) : OkD P w K mg base CX0 2 "_law_put_in" ["moments", "moment"] (spPut K) := by
  have GE : OkD P w K mg base CX0 1 "_law_less" ["one", "other"] (spL2b K lessM) := ok_lless T
  refine T.d_law_put_in.ok sc_put (fun vs H Q E h => ?_) (fun f cdv A outer s H vs Q E hr h => ?_)
  · obtain ⟨l, x, ws, ts, m, rfl, _⟩ := h
    rfl
  · obtain ⟨tl, x, ws, ts, m, rfl, htl, hws, hx, hlt, hlm, hl9, q⟩ := h
    have hu := hr.units
    refine ⟨_, (pss_cons (ps_set (i := 2) sc_put.nd rfl (Or.inl rfl) pe_int) (pss_cons (ps_while PassesOwn.never (PW.pt (pw_and (pt_cmpR op_lt (pv 2) (pe_callB call_len_seq rfl T.b_len PySem.boot_len (pa_cons (pv 0) pa_nil)) (nomark _)) (pw_and1 (pt_val (pe_callD GE hr pass0 (pa_cons (pe_ix ix_list (pv 0) (pv 2) (fun _ _ => rfl)) (pa_cons (pv 1) pa_nil))))))) (pss_one (ps_set (i := 2) sc_put.nd rfl (Or.inl rfl) (pe_op op_add (pv 2) pe_int)))) (pss_one (ps_if (PW.pt (pw_or (pt_cmpR op_eq (pv 2) (pe_callB call_len_seq rfl T.b_len PySem.boot_len (pa_cons (pv 0) pa_nil)) (nomark _)) (pw_or1 (pt_cmpR (op_neD hu) (pe_ix ix_list (pv 0) (pv 2) (fun _ _ => rfl)) (pv 1) (nomark _))))) (pss_one (ps_expr (pe_bm PySem.F.plainAttrs_list PySem.F.slot_list_insert PySem.F.type_list_insert mt_insert (pv 0) (pa_cons (pv 2) (pa_cons (pv 1) pa_nil))))) pss_nil)))), ?_⟩
    have hwl := pr_len hws
    refine ⟨fun n σ H3 => ∃ j, n = ts.length - j ∧ j ≤ placeM ts m ∧ H3 = H ∧ σ = [some (.ref tl), some x, some (.int (j : Nat))], ⟨_, 0, rfl, Nat.zero_le _, rfl, rfl⟩, ?_⟩
    rintro n σ H3 ⟨j, rfl, hj, rfl, rfl⟩
    have pl := place_le ts m
    have at_ : ∀ j, j < ts.length → ∃ v t, ws[j]? = some v ∧ ts[j]? = some t ∧ Mo K H3 v t := fun j hj => by
      have h1 : ts[j]? = some ts[j] := by simp [hj]
      obtain ⟨v, h2, h3⟩ := pr_get hws h1
      exact ⟨v, _, h2, h1, h3⟩
    have put : j = placeM ts m → (∀ t, ts[j]? = some t → t ≠ m) → Q .non (upd H3 tl (.lst (ws.take j ++ x :: ws.drop j))) := by
      intro ej hne
      have gr := grow_lst (ys := ws.take j ++ x :: ws.drop j) htl
      refine q _ _ upd_same ?_ (fun b o hb z => by rw [upd_ne hb]; exact z) (fun b hb z => by rw [upd_ne hb]; exact z)
      rw [ins_put, ← ej, if_neg (fun z => hne m z rfl)]
      have h1 := pr_mono (fun _ _ z => Mo.grow gr z) hws
      exact pr_app (prt j h1) (.cons (hx.grow gr) (prd j h1))
    have keep : j = placeM ts m → ts[j]? = some m → Q .non H3 := by
      intro ej hm
      refine q _ ws htl ?_ (But.refl _ _) (fun b _ z => z)
      rw [ins_put, ← ej, if_pos hm]
      exact hws
    refine ⟨_, rfl, _, rfl, tl, ws, rfl, .inl (SqL.of htl), _, _, rfl, rfl, _, rfl, ite2 (fun h => ?_) (fun h => iteF ?_)⟩
    · have hjl : j < ts.length := by have := of_decide_eq_true h; omega
      obtain ⟨v, t, hv, ht, hmt⟩ := at_ j hjl
      have lt' := hlt t (List.mem_of_getElem? ht)
      refine ⟨_, rfl, _, rfl, tl, ws, _, v, rfl, rfl, SqL.of htl, atI_nat hv, _, rfl, v, x, t, m, rfl, hmt, hx, by show _ ≤ 40; omega, by show _ ≤ 40; omega, _, rfl, ?_⟩
      cases hb : lessM t m with
      | true =>
        refine iteT ⟨fun σ' H' => H' = H3 ∧ σ' = [some (.ref tl), some x, some (.int ((j + 1 : Nat) : Int))], ?_, ⟨_, rfl, _, _, rfl, rfl, rfl, rfl⟩⟩
        rintro σ' H' ⟨rfl, rfl⟩
        have hjp : j < placeM ts m := by
          rcases Nat.lt_or_eq_of_le hj with z | z
          · exact z
          · rw [z] at ht
            rw [place_stop ts m t ht] at hb
            cases hb
        exact ⟨ts.length - (j + 1), by omega, j + 1, rfl, hjp, rfl, rfl⟩
      | false =>
        have ej : j = placeM ts m := by
          rcases Nat.lt_or_eq_of_le hj with z | z
          · rw [place_less ts m j t z ht] at hb; cases hb
          · exact z
        refine iteF ⟨_, rfl, _, rfl, tl, ws, rfl, .inl (SqL.of htl), rfl, _, rfl, ?_⟩
        have d1 : decide (V.int (j : Nat) = V.int (ws.length : Nat)) = false := decide_eq_false (fun z => by injection z; omega)
        show if decide (V.int (j : Nat) = V.int (ws.length : Nat)) = true then _ else _
        rw [d1]
        refine iteF ⟨_, rfl, _, rfl, tl, ws, _, v, rfl, rfl, SqL.of htl, atI_nat hv, _, rfl, _, moV_eqD hmt hx 7, _, rfl, ?_⟩
        by_cases e : t = m
        · rw [decide_eq_true e]
          exact iteF (keep ej (by rw [ht, e]))
        · rw [decide_eq_false e]
          exact iteT ⟨_, rfl, .inl ⟨rfl, _, SqL.of htl⟩, _, rfl, _, rfl, tl, ws, x, j, rfl, rfl, htl, by omega, by omega, put ej fun t' ht' => by rw [ht] at ht'; cases ht'; exact e⟩
    · have hjl : j = ts.length := by
        have : ¬ ((j : Int) < (ws.length : Int)) := fun z => h (decide_eq_true z)
        omega
      have ej : j = placeM ts m := by omega
      refine ⟨_, rfl, _, rfl, tl, ws, rfl, .inl (SqL.of htl), rfl, _, rfl, ?_⟩
      have d1 : decide (V.int (j : Nat) = V.int (ws.length : Nat)) = true := decide_eq_true (by rw [hjl, hwl])
      show if decide (V.int (j : Nat) = V.int (ws.length : Nat)) = true then _ else _
      rw [d1]
      exact iteT (iteT ⟨_, rfl, .inl ⟨rfl, _, SqL.of htl⟩, _, rfl, _, rfl, tl, ws, x, j, rfl, rfl, htl, by omega, by omega, put ej fun t' ht' => by rw [hjl, List.getElem?_eq_none (Nat.le_refl _)] at ht'; cases ht'⟩)
def But2 (a c : Addr) (H H' : Hp) : Prop := ∀ b o, b ≠ a → b ≠ c → H b = some o → H' b = some o
theorem But2.grow {a c : Addr} {H H' : Hp} {xs ys : List V} (e : But2 a c H H') (ha : H a = some (.lst xs)) (hc : H c = some (.lst ys)) : Grow H H' := ⟨fun b zs z => by
  rcases z with z | ⟨o, z⟩
  · exact .inl (e _ _ (ne_of z ha (by intro y; cases y)) (ne_of z hc (by intro y; cases y)) z)
  · exact .inr ⟨o, e _ _ (ne_of z ha (by intro y; cases y)) (ne_of z hc (by intro y; cases y)) z⟩⟩
theorem _root_.L2.RwM.but2 {a c : Addr} {H H' : Hp} {xs ys : List V} {v : V} {ms : List M} (e : But2 a c H H') (ha : H a = some (.lst xs)) (hc : H c = some (.lst ys)) (n1 : v ≠ .ref a) (n2 : v ≠ .ref c) (h : RwM K H v ms) : RwM K H' v ms := by
  obtain ⟨b, us, rfl, hb, hus⟩ := h
  exact ⟨b, us, rfl, e _ _ (fun z => n1 (by rw [z])) (fun z => n2 (by rw [z])) hb, pr_mono (fun _ _ z => z.grow (e.grow ha hc)) hus⟩
theorem _root_.L2.RwM.same {H H' : Hp} {v : V} {ms : List M} (e : Same H H') (h : RwM K H v ms) : RwM K H' v ms := by
  obtain ⟨b, us, rfl, hb, hus⟩ := h
  exact ⟨b, us, rfl, e _ _ hb, pr_mono (fun _ _ z => z.same e) hus⟩
theorem pr_in {α : Type} {R S : V → α → Prop} {C : V → Prop} (f : ∀ v x, C v → R v x → S v x) : ∀ {vs : List V} {xs : List α}, (∀ v ∈ vs, C v) → Paired R vs xs → Paired S vs xs
  | _, _, _, .nil => .nil
  | _, _, h, .cons r t => .cons (f _ _ (h _ (by simp)) r) (pr_in f (fun v hv => h v (by simp [hv])) t)
def chkR (n t : Nat) : Bool := decide ((reachM n t).1.length ≤ 30) && ((reachM n t).1.all (fun m => decide (m.2 ≤ 20)) && (decide ((reachM n t).2.length ≤ 30) && (reachM n t).2.all (fun row => decide (row.length ≤ 9) && (row.all (fun m => decide (m.2 ≤ 20)) && (decide ((newsM row).length ≤ 20) && (newsM row).all (fun m => decide (m.2 ≤ 20)))))))
theorem chk_all : ([1, 2, 3, 4] : List Nat).all (fun n => (List.range n).all (chkR n)) = true := by decide +kernel
theorem chk_at {n t : Nat} (h1 : 1 ≤ n) (h4 : n ≤ 4) (ht : t < n) : (reachM n t).1.length ≤ 30 ∧ (∀ m ∈ (reachM n t).1, m.2 ≤ 20) ∧ (reachM n t).2.length ≤ 30 ∧ ∀ row ∈ (reachM n t).2, row.length ≤ 9 ∧ (∀ m ∈ row, m.2 ≤ 20) ∧ (newsM row).length ≤ 20 ∧ ∀ m ∈ newsM row, m.2 ≤ 20 := by
  have hn : n ∈ ([1, 2, 3, 4] : List Nat) := by
    have : n = 1 ∨ n = 2 ∨ n = 3 ∨ n = 4 := by omega
    simpa using this
  have h := List.all_eq_true.mp (List.all_eq_true.mp chk_all n hn) t (List.mem_range.mpr ht)
  unfold chkR at h
  simp only [Bool.and_eq_true, decide_eq_true_eq, List.all_eq_true] at h
  exact ⟨h.1, h.2.1, h.2.2.1, fun row hr => (h.2.2.2 row hr)⟩
def spReach (K : PySem.W.Frag) : Sp := fun vs H Q _ => ∃ n : Nat, vs = [.int (n : Nat)] ∧ 1 ≤ n ∧ n ≤ 4 ∧ ∀ l H' us, Same H H' → H l = none → H' l = some (.lst us) → Paired (Mo K H') us (reachM n n).1 → Q (.ref l) H'
theorem sc_reach : FnScope ["most", "rows", "found", "turn", "longer", "row", "moment", "grown"] ["most"] (defScope s_law_reached) := ⟨rfl, rfl, rfl, by decide +kernel, rfl, by decide +kernel, by decide +kernel⟩
theorem insM_len : ∀ (ts : List M) (m : M), (insM ts m).length ≤ ts.length + 1
  | [], _ => by simp [insM]
  | t :: ts, m => by
    unfold insM
    have := insM_len ts m
    split
    · simp; omega
    · split <;> simp
theorem insM_exp {ts : List M} {m : M} (h : ∀ t ∈ ts, t.2 ≤ 20) (hm : m.2 ≤ 20) : ∀ t ∈ insM ts m, t.2 ≤ 20 := fun t ht => by
  rcases (ins_mem ts m t).mp ht with z | z
  · rw [z]; exact hm
  · exact h t z
theorem ok_reach (T : Txt K mg) : OkD P w K mg base CX0 4 "_law_reached" ["most"] (spReach K) := by
  have GN : OkD P w K mg base CX0 3 "_law_new_moments" ["row"] (spNewm K) := ok_newm T
  have GP : OkD P w K mg base CX0 2 "_law_put_in" ["moments", "moment"] (spPut K) := ok_put T
  refine T.d_law_reached.ok sc_reach (fun vs H Q E h => ?_) (fun f cdv A outer s H vs Q E hr h => ?_)
  · obtain ⟨n, rfl, _⟩ := h
    rfl
  · obtain ⟨n, rfl, n1, n4, q⟩ := h
    have hu := hr.units
    have r2 : Room 2 _ := hr.mono (by decide)
    refine ⟨_, (pss_cons (ps_set (i := 1) sc_reach.nd rfl (Or.inl rfl) (pe_lst (pa_cons (pe_lst (pa_cons (pe_tup (pa_cons pe_int (pa_cons pe_int pa_nil))) pa_nil)) pa_nil))) (pss_cons (ps_set (i := 2) sc_reach.nd rfl (Or.inl rfl) (pe_lst pa_nil)) (pss_cons (ps_for PassesOwn.never rfl (pi_range1 rfl T.b_range (pa_cons (pv 0) pa_nil)) (pg_name (i := 3) sc_reach.nd rfl (Or.inl rfl)) (pss_cons (ps_set (i := 4) sc_reach.nd rfl (Or.inl rfl) (pe_lst pa_nil)) (pss_cons (ps_for PassesOwn.never rfl (pi_list (pv 1)) (pg_name (i := 5) sc_reach.nd rfl (Or.inl rfl)) (pss_one (ps_for PassesOwn.never rfl (pi_list (pe_callD GN hr pass0 (pa_cons (pv 5) pa_nil))) (pg_name (i := 6) sc_reach.nd rfl (Or.inl rfl)) (pss_cons (ps_expr (pe_callD GP r2 pass0 (pa_cons (pv 2) (pa_cons (pv 6) pa_nil)))) (pss_cons (ps_set (i := 7) sc_reach.nd rfl (Or.inl rfl) (pe_callTy call_list_of rfl T.b_list PyProof.Rows.boot_list (pa_cons (pv 5) pa_nil))) (pss_cons (ps_expr (pe_callD GP r2 pass0 (pa_cons (pv 7) (pa_cons (pv 6) pa_nil)))) (pss_one (ps_if (PW.pt (pw_and (pt_cmpR (op_notInRw hu) (pv 7) (pv 4) rfl) (pw_and1 (pt_cmpR op_lt (pe_op op_add (pv 3) pe_int) (pv 0) (nomark _))))) (pss_one (ps_expr (pe_bm PySem.F.plainAttrs_list PySem.F.slot_list_append PySem.F.type_list_append mt_append (pv 4) (pa_cons (pv 7) pa_nil)))) pss_nil)))))))) (pss_one (ps_set (i := 1) sc_reach.nd rfl (Or.inl rfl) (pv 4)))))) (pss_one (ps_ret (pv 2)))))), ?_⟩
    have two : (2 : Nat) ≤ sizeLine := by decide
    have one : (1 : Nat) ≤ sizeLine := by decide
    refine ⟨two, fun p0 hp0 => ⟨one, fun b0 hb0 => ⟨one, fun R0 hR0 => ⟨Nat.zero_le _, fun l hl0 => ?_⟩⟩⟩⟩
    have s1 : Same H (upd H p0 (.tup [.int 0, .int 1])) := same_upd hp0
    have s2 := same_upd (o := .lst [.ref p0]) hb0
    have s3 := same_upd (o := .lst [.ref b0]) hR0
    have s4 := same_upd (o := .lst []) hl0
    have s0 := s1.trans (s2.trans (s3.trans s4))
    have hl : H l = none := (s1.trans (s2.trans s3)).free hl0
    have hb4 := s4 _ _ (s3 b0 _ upd_same)
    have hR4 := s4 R0 _ upd_same
    have hRl : R0 ≠ l := fun z => by rw [← z, upd_same] at hl0; cases hl0
    have hbl : b0 ≠ l := fun z => by rw [← z, s3 b0 _ upd_same] at hl0; cases hl0
    have hp4 := s4 _ _ (s3 _ _ (s2 p0 _ upd_same))
    refine ⟨_, rfl, _, rfl, by omega, by omega, for_range (n := n) (fun t σ H2 => ∃ R us rs, H2 l = some (.lst us) ∧ Paired (Mo K H2) us (reachM n t).1 ∧ H2 R = some (.lst rs) ∧ Paired (RwM K H2) rs (reachM n t).2 ∧ (∀ v ∈ rs, v ≠ .ref l) ∧ R ≠ l ∧ Same H H2 ∧ ∃ x3 x4 x5 x6 x7, σ = [some (.int (n : Nat)), some (.ref R), some (.ref l), x3, x4, x5, x6, x7])
      ⟨R0, [], [.ref b0], upd_same, .nil, hR4, .cons ⟨b0, [.ref p0], rfl, hb4, .cons ⟨p0, rfl, SqT.of hp4⟩ .nil⟩ .nil, (fun v hv => by rw [List.mem_singleton.mp hv]; intro z; injection z; exact hbl (by assumption)), hRl, s0, _, _, _, _, _, rfl⟩ ?_ ?_⟩
    · rintro t σ H2 ht ⟨R, us, rs, hl2, hus, hR2, hrs, hrl, hRl, sm, x3, x4, x5, x6, x7, rfl⟩
      have e4 : (0 + (t : Int)) = (t : Int) := by omega
      rw [e4]
      obtain ⟨c1, c2, c3, c4⟩ := chk_at n1 n4 ht
      refine ⟨Nat.zero_le _, fun L hL0 => ?_⟩
      have sL := same_upd (o := .lst []) hL0
      have hLl : L ≠ l := fun z => by rw [z, hl2] at hL0; cases hL0
      have hLR : R ≠ L := fun z => by rw [← z, hR2] at hL0; cases hL0
      have hLH : H L = none := sm.free hL0
      have hLa : upd H2 L (.lst []) L = some (.lst []) := upd_same
      have hla := sL _ _ hl2
      have hrsL : ∀ v ∈ rs, v ≠ .ref l ∧ v ≠ .ref L := fun v hv => ⟨hrl v hv, fun z => by
        obtain ⟨i, hi⟩ := List.mem_iff_getElem?.mp hv
        obtain ⟨ms, _, b, _, e, hb, _⟩ := pr_get' hrs hi
        rw [z] at e
        cases e
        rw [hL0] at hb; cases hb⟩
      have hrsa : Paired (RwM K (upd H2 L (.lst []))) rs (reachM n t).2 := pr_mono (fun _ _ z => z.same sL) hrs
      have hRa := sL _ _ hR2
      have sma := sm.trans sL
      generalize hHa : upd H2 L (.lst []) = Ha at *
      have hrsl := pr_len hrsa
      refine ⟨_, rfl, R, rfl, ⟨rs, SqL.of hRa⟩, for_list (K := K) (a := R) (xs := rs) (fun i σ H3 => ∃ us ls F G, (F, G) = ((reachM n t).2.take i).foldl (rowR (decide (t + 1 < n))) ((reachM n t).1, []) ∧ H3 l = some (.lst us) ∧ Paired (Mo K H3) us F ∧ H3 L = some (.lst ls) ∧ Paired (RwM K H3) ls G ∧ (∀ v ∈ ls, v ≠ .ref l ∧ v ≠ .ref L) ∧ But2 l L Ha H3 ∧ F.length ≤ 30 + 20 * i ∧ G.length ≤ 20 * i ∧ (∀ m ∈ F, m.2 ≤ 20) ∧ ∃ x5 x6 x7, σ = [some (.int (n : Nat)), some (.ref R), some (.ref l), some (.int (t : Nat)), some (.ref L), x5, x6, x7])
        ⟨us, [], _, _, rfl, hla, ?_, hLa, .nil, (fun v hv => by cases hv), (fun b o _ _ z => z), by omega, by simp, c2, _, _, _, rfl⟩ (fun i σ H3 _ ⟨_, _, _, _, _, _, _, _, _, _, b2, _⟩ => SqL.of (b2 _ _ hRl hLR hRa)) ?_ ?_⟩
      · exact pr_mono (fun _ _ z => z.same sL) hus
      · rintro i x σ H3 hi ⟨us3, ls3, F0, G0, eFG, hl3, hus3, hL3, hls3, hlsn, b2, fl, gl, fe, x5, x6, x7, rfl⟩
        obtain ⟨row, hrow, hxr⟩ := pr_get' hrsa hi
        have hxn := hrsL x (List.mem_of_getElem? hi)
        have hi30 : i < 30 := by have := (List.getElem?_eq_some_iff.mp hrow).1; omega
        obtain ⟨k1, k2, k3, k4⟩ := c4 row (List.mem_of_getElem? hrow)
        obtain ⟨b, bs, rfl, hb3, hbs3⟩ := hxr.but2 b2 hla hLa hxn.1 hxn.2
        have hbl : b ≠ l := fun z => hxn.1 (by rw [z])
        have hbL : b ≠ L := fun z => hxn.2 (by rw [z])
        refine ⟨_, rfl, b, row, rfl, ⟨bs, SqL.of hb3, hbs3⟩, k2, by omega, fun N H4 ns s34 hN0 hN4 hns => ?_⟩
        have hNl : N ≠ l := fun z => by rw [z, hl3] at hN0; cases hN0
        have hNL : N ≠ L := fun z => by rw [z, hL3] at hN0; cases hN0
        have hl4 := s34 _ _ hl3
        have hL4 := s34 _ _ hL3
        have hb4 := s34 _ _ hb3
        have hbs4 : Paired (Mo K H4) bs row := pr_mono (fun _ _ z => z.same s34) hbs3
        have hnl := pr_len hns
        refine ⟨N, rfl, ⟨ns, SqL.of hN4⟩, for_list (K := K) (a := N) (xs := ns) (fun j σ H5 => ∃ us ls F G, (F, G) = ((newsM row).take j).foldl (putR (decide (t + 1 < n)) row) (F0, G0) ∧ H5 l = some (.lst us) ∧ Paired (Mo K H5) us F ∧ H5 L = some (.lst ls) ∧ Paired (RwM K H5) ls G ∧ (∀ v ∈ ls, v ≠ .ref l ∧ v ≠ .ref L) ∧ But2 l L H4 H5 ∧ F.length ≤ F0.length + j ∧ G.length ≤ G0.length + j ∧ (∀ m ∈ F, m.2 ≤ 20) ∧ ∃ x6 x7, σ = [some (.int (n : Nat)), some (.ref R), some (.ref l), some (.int (t : Nat)), some (.ref L), some (.ref b), x6, x7])
          ⟨us3, ls3, F0, G0, rfl, hl4, pr_mono (fun _ _ z => z.same s34) hus3, hL4, pr_mono (fun _ _ z => z.same s34) hls3, hlsn, (fun b o _ _ z => z), by omega, by omega, fe, _, _, rfl⟩ (fun j σ H5 _ ⟨_, _, _, _, _, _, _, _, _, _, b5, _⟩ => SqL.of (b5 _ _ hNl hNL hN4)) ?_ ?_⟩
        · rintro j y σ H5 hj ⟨us5, ls5, F, G, eFG5, hl5, hus5, hL5, hls5, hlsn5, b5, fl5, gl5, fe5, y6, y7, rfl⟩
          obtain ⟨m, hm, hmy⟩ := pr_get' hns hj
          have hmy5 := hmy.grow (b5.grow hl4 hL4)
          have hm20 := k4 m (List.mem_of_getElem? hm)
          have hj20 : j < 20 := by have := (List.getElem?_eq_some_iff.mp hm).1; omega
          have hb5 := b5 _ _ hbl hbL hb4
          have hbs5 : Paired (Mo K H5) bs row := pr_mono (fun _ _ z => z.grow (b5.grow hl4 hL4)) hbs4
          refine ⟨_, rfl, _, rfl, l, y, us5, F, m, rfl, hl5, hus5, hmy5, fe5, hm20, by omega, fun H6 us6 hl6 hus6 b6 f6 => ?_⟩
          have hL6 := b6 _ _ hLl hL5
          have hb6 := b6 _ _ hbl hb5
          have g6 := b6.grow hl5
          refine ⟨_, rfl, b, bs, rfl, .inl (SqL.of hb6), fun g hg0 => ?_⟩
          have s67 := same_upd (o := .lst bs) hg0
          have hgl : g ≠ l := fun z => by rw [z, hl6] at hg0; cases hg0
          have hgL : g ≠ L := fun z => by rw [z, hL6] at hg0; cases hg0
          have hbs7 : Paired (Mo K (upd H6 g (.lst bs))) bs row := pr_mono (fun _ _ z => (z.grow g6).same s67) hbs5
          refine ⟨_, rfl, _, rfl, g, y, bs, row, m, rfl, upd_same, hbs7, (hmy5.grow g6).same s67, k2, hm20, by omega, fun H8 gs hg8 hgs b8 f8 => ?_⟩
          have g8 := b8.grow (xs := bs) upd_same
          have hl8 := b8 _ _ (Ne.symm hgl) (s67 _ _ hl6)
          have hL8 := b8 _ _ (Ne.symm hgL) (s67 _ _ hL6)
          have b58 : But2 l L H5 H8 := fun b o n1 n2 z => b8 _ _ (fun y => by
            have := f6
            have h6 := b6 _ _ n1 z
            rw [y, hg0] at h6; cases h6) (s67 _ _ (b6 _ _ n1 z))
          have hus8 : Paired (Mo K H8) us6 (insM F m) := pr_mono (fun _ _ z => (z.same s67).grow g8) hus6
          have hls8 : Paired (RwM K H8) ls5 G := pr_in (fun v x c z => z.but2 b58 hl5 hL5 c.1 c.2) hlsn5 hls5
          have fl8 := insM_len F m
          have fe8 := insM_exp fe5 hm20
          have hlslen := pr_len hls5
          have step : ((newsM row).take (j + 1)).foldl (putR (decide (t + 1 < n)) row) (F0, G0) = putR (decide (t + 1 < n)) row (F, G) m := by
            rw [take_snoc hm, List.foldl_append, ← eFG5]; rfl
          have keep : (!(G.any fun g => decide (g = insM row m)) && decide (t + 1 < n)) = false → ∃ us ls F' G', (F', G') = ((newsM row).take (j + 1)).foldl (putR (decide (t + 1 < n)) row) (F0, G0) ∧ H8 l = some (.lst us) ∧ Paired (Mo K H8) us F' ∧ H8 L = some (.lst ls) ∧ Paired (RwM K H8) ls G' ∧ (∀ v ∈ ls, v ≠ .ref l ∧ v ≠ .ref L) ∧ But2 l L H4 H8 ∧ F'.length ≤ F0.length + (j + 1) ∧ G'.length ≤ G0.length + (j + 1) ∧ (∀ m ∈ F', m.2 ≤ 20) ∧ ∃ x6 x7, [some (V.int (n : Nat)), some (V.ref R), some (V.ref l), some (V.int (t : Nat)), some (V.ref L), some (V.ref b), some y, some (V.ref g)] = [some (V.int (n : Nat)), some (V.ref R), some (V.ref l), some (V.int (t : Nat)), some (V.ref L), some (V.ref b), x6, x7] := fun hk => by
            refine ⟨us6, ls5, insM F m, G, ?_, hl8, hus8, hL8, hls8, hlsn5, fun b o n1 n2 z => b58 _ _ n1 n2 (b5 _ _ n1 n2 z), by omega, by omega, fe8, _, _, rfl⟩
            rw [step]
            show _ = (insM F m, if (!(G.any fun g => decide (g = insM row m)) && decide (t + 1 < n)) = true then _ else G)
            rw [hk]
            rfl
          refine ⟨_, rfl, _, rfl, L, ls5, G, insM row m, rfl, SqL.of hL8, hls8, ⟨g, gs, rfl, hg8, hgs⟩, _, rfl, ?_⟩
          by_cases hin : insM row m ∈ G
          · rw [any_yes hin]
            refine iteF (iteF (keep ?_))
            rw [any_yes hin]; rfl
          · rw [any_no hin]
            refine iteT ⟨_, rfl, _, _, rfl, rfl, _, rfl, _, _, rfl, rfl, _, rfl, ?_⟩
            by_cases hmore : t + 1 < n
            · have d1 : decide ((t : Int) + 1 < (n : Int)) = true := decide_eq_true (by omega)
              show if decide ((t : Int) + 1 < (n : Int)) = true then _ else _
              rw [d1]
              refine iteT ⟨_, rfl, .inl ⟨rfl, _, SqL.of hL8⟩, _, rfl, L, ls5, .ref g, rfl, rfl, hL8, small1000 (by omega), ?_⟩
              have gr := grow_lst (ys := ls5 ++ [.ref g]) hL8
              have bL : But2 l L H8 (upd H8 L (.lst (ls5 ++ [.ref g]))) := fun b o _ n2 z => by rw [upd_ne n2]; exact z
              refine ⟨us6, ls5 ++ [.ref g], insM F m, G ++ [insM row m], ?_, by rw [upd_ne (Ne.symm hLl)]; exact hl8, pr_mono (fun _ _ z => z.grow gr) hus8, upd_same, pr_snoc (pr_in (fun v x c z => z.but2 bL hl8 hL8 c.1 c.2) hlsn5 hls8) ?_, ?_, fun b o n1 n2 z => bL _ _ n1 n2 (b58 _ _ n1 n2 (b5 _ _ n1 n2 z)), by omega, by simp; omega, fe8, _, _, rfl⟩
              · rw [step]
                show _ = (insM F m, if (!(G.any fun g => decide (g = insM row m)) && decide (t + 1 < n)) = true then G ++ [insM row m] else G)
                rw [any_no hin, decide_eq_true hmore]
                rfl
              · exact RwM.but2 bL hl8 hL8 (by intro z; injection z; exact hgl (by assumption)) (by intro z; injection z; exact hgL (by assumption)) ⟨g, gs, rfl, hg8, hgs⟩
              · intro v hv
                rcases List.mem_append.mp hv with z | z
                · exact hlsn5 v z
                · rw [List.mem_singleton.mp z]
                  exact ⟨by intro z; injection z; exact hgl (by assumption), by intro z; injection z; exact hgL (by assumption)⟩
            · have d1 : decide ((t : Int) + 1 < (n : Int)) = false := decide_eq_false (by omega)
              show if decide ((t : Int) + 1 < (n : Int)) = true then _ else _
              rw [d1]
              refine iteF (keep ?_)
              rw [decide_eq_false hmore, Bool.and_false]
        · rintro σ H5 ⟨us5, ls5, F, G, eFG5, hl5, hus5, hL5, hls5, hlsn5, b5, fl5, gl5, fe5, y6, y7, rfl⟩
          rw [List.take_of_length_le (by omega)] at eFG5
          refine ⟨us5, ls5, F, G, ?_, hl5, hus5, hL5, hls5, hlsn5, fun b o n1 n2 z => b5 _ _ n1 n2 (s34 _ _ (b2 _ _ n1 n2 z)), by omega, by omega, fe5, _, _, _, rfl⟩
          rw [take_snoc hrow, List.foldl_append, ← eFG]
          exact eFG5
      · rintro σ H3 ⟨us3, ls3, F0, G0, eFG, hl3, hus3, hL3, hls3, hlsn, b2, fl, gl, fe, x5, x6, x7, rfl⟩
        rw [List.take_of_length_le (by omega)] at eFG
        have e : reachM n (t + 1) = (F0, G0) := eFG.symm
        refine ⟨_, rfl, L, us3, ls3, hl3, by rw [e]; exact hus3, hL3, by rw [e]; exact hls3, fun v hv => (hlsn v hv).1, hLl, fun b o z => b2 _ _ (ne_of_none z hl) (ne_of_none z hLH) (sma _ _ z), _, _, _, _, _, rfl⟩
    · rintro σ H2 ⟨R, us, rs, hl2, hus, hR2, hrs, hrl, hRl, sm, x3, x4, x5, x6, x7, rfl⟩
      exact ⟨_, rfl, q l H2 us sm hl hl2 hus⟩
/-- _law_most(cell) -/
def mostN (c : Int) : Nat := if c % 8 = 7 then 4 else 1 + (c % 3).toNat
theorem mostN_le (c : Int) : 1 ≤ mostN c ∧ mostN c ≤ 4 := by
  unfold mostN
  have h0 : 0 ≤ c % 3 := Int.emod_nonneg _ (by decide)
  have h1 : c % 3 < 3 := Int.emod_lt_of_pos _ (by decide)
  split <;> omega
def spMost : Sp := fun vs H Q _ => ∃ c : Int, vs = [.int c] ∧ Q (.int (mostN c : Nat)) H
theorem sc_most : FnScope ["cell"] ["cell"] (defScope s_law_most) := ⟨rfl, rfl, rfl, by decide +kernel, rfl, by decide +kernel, by decide +kernel⟩
theorem ok_most (T : Txt K mg) : OkD P w K mg base CX0 1 "_law_most" ["cell"] spMost := by
  refine T.d_law_most.ok sc_most (fun vs H Q E h => ?_) (fun f cdv A outer s H vs Q E hr h => ?_)
  · obtain ⟨c, rfl, _⟩ := h
    rfl
  · obtain ⟨c, rfl, q⟩ := h
    refine ⟨_, (pss_cons (ps_if (pt_cmpR op_eq (pe_op op_mod (pv 0) pe_int) pe_int (nomark _)) (pss_one (ps_ret pe_int)) pss_nil) (pss_one (ps_ret (pe_op op_add pe_int (pe_op op_mod (pv 0) pe_int))))), ?_⟩
    refine ⟨_, rfl, _, _, rfl, rfl, (by show (0 : Int) < 8; decide), rfl, _, rfl, ite2 (fun h => ?_) (fun h => ?_)⟩
    · have h0 : c % 8 = 7 := by
        have := of_decide_eq_true h
        injection this
      have e : mostN c = 4 := by unfold mostN; rw [if_pos h0]
      rw [e] at q
      exact q
    · have h0 : ¬ c % 8 = 7 := fun z => h (decide_eq_true (by show V.int (c % 8) = V.int 7; rw [z]))
      have e : ((mostN c : Nat) : Int) = 1 + c % 3 := by
        unfold mostN
        have : 0 ≤ c % 3 := Int.emod_nonneg _ (by decide)
        rw [if_neg h0]
        omega
      rw [e] at q
      exact ⟨_, rfl, _, _, rfl, rfl, (by show (0 : Int) < 3; decide), _, _, rfl, rfl, q⟩
end

/-! ### ropeclock.reach -/
section
variable {α β : Type} {F G : α → β → Prop}
theorem pp_mono (h : ∀ a b, F a b → G a b) : ∀ {l : List α} {k : List β}, Paired F l k → Paired G l k
  | _, _, .nil => .nil
  | _, _, .cons r t => .cons (h _ _ r) (pp_mono h t)
theorem pp_snoc {a : α} {b : β} (r : F a b) : ∀ {l : List α} {k : List β}, Paired F l k → Paired F (l ++ [a]) (k ++ [b])
  | _, _, .nil => .cons r .nil
  | _, _, .cons q t => .cons q (pp_snoc r t)
theorem pp_len : ∀ {l : List α} {k : List β}, Paired F l k → l.length = k.length
  | _, _, .nil => rfl
  | _, _, .cons _ t => by rw [List.length_cons, List.length_cons, pp_len t]
theorem pp_mem : ∀ {l : List α} {k : List β}, Paired F l k → ∀ a ∈ l, ∃ b ∈ k, F a b
  | _, _, .nil, a, h => by cases h
  | _, _, .cons (a := x) (b := y) r t, a, h => by
    rcases List.mem_cons.mp h with z | z
    · subst z; exact ⟨y, by simp, r⟩
    · obtain ⟨b, hb, hf⟩ := pp_mem t a z
      exact ⟨b, by simp [hb], hf⟩
theorem pp_map {γ : Type} {f : α → γ} {R : γ → β → Prop} (h : ∀ a b, F a b → R (f a) b) : ∀ {l : List α} {k : List β}, Paired F l k → Paired R (l.map f) k
  | _, _, .nil => .nil
  | _, _, .cons r t => .cons (h _ _ r) (pp_map h t)
theorem pp_map2 {γ δ : Type} {f : α → γ} {g : β → δ} {R : γ → δ → Prop} (h : ∀ a b, F a b → R (f a) (g b)) : ∀ {l : List α} {k : List β}, Paired F l k → Paired R (l.map f) (k.map g)
  | _, _, .nil => .nil
  | _, _, .cons r t => .cons (h _ _ r) (pp_map2 h t)
theorem foldl_inv {f : β → α → β} {C : β → Prop} : ∀ (l : List α) (b : β), (∀ b a, a ∈ l → C b → C (f b a)) → C b → C (l.foldl f b)
  | [], _, _, h => h
  | a :: l, b, st, h => foldl_inv l (f b a) (fun b' a' ha => st b' a' (by simp [ha])) (st b a (by simp) h)
end
section
variable {P : Program} {w : World} {K : PySem.W.Frag} {mg : Str → Option Value} {base : Heap}
/-- out_or_none(number, rope, moments) -/
def spOon (K : PySem.W.Frag) : Sp := fun vs H Q _ => ∃ (v : V) (a : Addr) (ms : List M) (r : Tau), vs = [.int (ms.length : Nat), v, .ref a] ∧ Ta K H v r ∧ MoL K H a ms ∧ TauOk ms.length r ∧ GdL ms ∧ ms.length < 20 ∧
  (∀ m, outR ms r = some m → ∀ v' H', Same H H' → Mo K H' v' m → Q v' H') ∧ (outR ms r = none → ∀ H', Same H H' → Q .non H')
theorem sc_oon : FnScope ["number", "rope", "moments"] ["number", "rope", "moments"] (defScope s_out_or_none) := ⟨rfl, rfl, rfl, by decide +kernel, rfl, by decide +kernel, by decide +kernel⟩
theorem ok_oon (T : Txt K mg) : OkD P w K mg base CX0 5 "out_or_none" ["number", "rope", "moments"] (spOon K) := by
  have GO : OkD P w K mg base (CXE P w) 4 "out_of" ["number", "rope", "moments"] (spOut K mg) := ok_out T
  obtain ⟨R, L, fI, fdI, xr, xl⟩ := T.e_Late
  refine T.d_out_or_none.ok sc_oon (fun vs H Q E h => ?_) (fun f cdv A outer s H vs Q E hr h => ?_)
  · obtain ⟨v, a, ms, r, rfl, _⟩ := h
    rfl
  · obtain ⟨v, a, ms, r, rfl, hT, hM, hok, hg, hl, q, qn⟩ := h
    refine ⟨_, pss_one (ps_tryN (Eb := fun cl dd H1 => cl = .ref L ∧ outR ms r = none ∧ Same H H1) ⟨rfl, rfl, rfl⟩ rfl xl.m
      (fun E pn hx => pss_one (ps_ret (pe_callD GO hr hx (pa_cons (pv 0) (pa_cons (pv 1) (pa_cons (pv 2) pa_nil))))))
      (fun v => pss_one (ps_ret pe_non))), ?_⟩
    refine ⟨⟨_, rfl, _, rfl, _, rfl, v, a, ms, r, rfl, hT, hM, hok, hg, hl, fun m ho v' H' sH hv' => q m ho v' H' sH hv', fun ho L' dx H' hL sH hd hx => ?_⟩, fun cl dd H1 hE => ?_⟩
    · cases xl.m.symm.trans hL
      exact ⟨rfl, ho, sH⟩
    · obtain ⟨rfl, ho, sH⟩ := hE
      refine ⟨L, rfl, ⟨_, _, xl.ob.x rfl rfl rfl rfl, xl.ob.x rfl rfl rfl rfl, ?_⟩, fun σ' _ => qn ho H1 sH⟩
      simp
/-- ropes_in_order(number) -/
def spRopes (K : PySem.W.Frag) : Sp := fun vs H Q _ => ∃ n : Nat, vs = [.int (n : Nat)] ∧ n ≤ 10 ∧ ∀ l H' us, Same H H' → H l = none → H' l = some (.lst us) → Paired (Ta K H') us (ropesM n) → Q (.ref l) H'
theorem sc_ropes : FnScope ["number", "ropes", "one"] ["number"] (defScope s_ropes_in_order) := ⟨rfl, rfl, rfl, by decide +kernel, rfl, by decide +kernel, by decide +kernel⟩
theorem ropesP_len (n : Nat) (h : n ≤ 10) : ∀ i, ((List.range i).flatMap (ropesI n)).length ≤ 12 * i
  | 0 => by simp
  | i + 1 => by
    rw [List.range_succ, List.flatMap_append, List.length_append]
    have h1 := ropesP_len n h i
    have e : (List.flatMap (ropesI n) [i]) = ropesI n i := by simp
    have h2 : (ropesI n i).length = n + 1 - i + 1 := by simp [ropesI]
    rw [e]
    omega
theorem ok_ropes (T : Txt K mg) : OkD P w K mg base CX0 1 "ropes_in_order" ["number"] (spRopes K) := by
  obtain ⟨tB, mB⟩ := T.v_BEGINNING
  refine T.d_ropes_in_order.ok sc_ropes (fun vs H Q E h => ?_) (fun f cdv A outer s H vs Q E hr h => ?_)
  · obtain ⟨n, rfl, _⟩ := h
    rfl
  · obtain ⟨n, rfl, hn, q⟩ := h
    have B : BlkScope (cxOf CX0 P w K mg base ["number", "ropes", "one"] "ropes_in_order" (defScope s_ropes_in_order) f cdv A outer s H E).nox ["other", "one"] [none, some 2] { kind := .function, names := [(".0", .local), ("other", .local), ("one", .free)], isGenerator := false, isCoroutine := false, more := [] } [("one", s.heap.objs.size + 1)] := by
      refine ⟨rfl, by decide +kernel, by decide +kernel, rfl, fun x c h => ?_, fun x h => ?_, rfl, fun i j x h1 h2 => ?_⟩
      · have h := look_mem h
        simp only [List.mem_cons, Prod.mk.injEq, List.not_mem_nil, or_false] at h
        rcases h with ⟨rfl, rfl⟩
        rfl
      · have e : x = "one" := by
          rcases h with h | h
          · have h := look_mem (l := ([(".0", .local), ("other", .local), ("one", .cell)] : List (Str × NameKind))) h
            simpa using h
          · have h := look_mem (l := ([(".0", .local), ("other", .local), ("one", .cell)] : List (Str × NameKind))) h
            simp at h
        rcases e with rfl
        exact ⟨_, rfl⟩
      · match i, h1, h2 with
        | 1, h1, h2 =>
          cases h1
          cases h2
          exact ⟨rfl, (show some NameKind.cell ≠ some NameKind.local from by decide), .inr (.inl rfl), .inl rfl⟩
    refine ⟨_, (pss_cons (ps_set (i := 1) sc_ropes.nd rfl (Or.inl rfl) (pe_lst pa_nil)) (pss_cons (ps_for PassesOwn.never rfl (pi_range2 rfl T.b_range (pa_cons (pe_glob (v := .int (-1)) rfl mB ⟨_, rfl⟩) (pa_cons (pv 0) pa_nil))) (pg_name (i := 2) sc_ropes.nd rfl (Or.inr rfl)) (pss_cons (ps_expr (pe_bm PySem.F.plainAttrs_list PySem.F.slot_list_append PySem.F.type_list_append mt_append (pv 1) (pa_cons (pe_tup (pa_cons (pv 2) (pa_cons pe_non pa_nil))) pa_nil))) (pss_one (ps_expr (pe_bm PySem.F.plainAttrs_list PySem.F.slot_list_extend PySem.F.type_list_extend mt_extend (pv 1) (pa_cons (pe_comp rfl B (pi_range2 rfl T.b_range (pa_cons (pv 2) (pa_cons (pv 0) pa_nil))) (fun C s0 H0 fp => (pg_name (i := 0) (by decide +kernel : List.Nodup (["other", "one"] : List Str)) rfl (Or.inl rfl))) (fun C s0 H0 fp => pifs_nil) (fun C s0 H0 fp => (pe_tup (pa_cons (pv 1) (pa_cons (pv 0) pa_nil))))) pa_nil)))))) (pss_one (ps_ret (pv 1))))), ?_⟩
    have two : (2 : Nat) ≤ sizeLine := by decide
    refine ⟨Nat.zero_le _, fun l hl0 => ?_⟩
    have s0 : Same H (upd H l (.lst [])) := same_upd hl0
    refine ⟨_, rfl, _, _, rfl, ⟨by omega, by omega, by omega, by omega⟩, for_rng (lo := -1) (n := n + 1) (by omega) (fun i σ H2 => ∃ us, H2 l = some (.lst us) ∧ Paired (Ta K H2) us ((List.range i).flatMap (ropesI n)) ∧ Same H H2 ∧ ∃ x, σ = [some (.int (n : Nat)), some (.ref l), x])
      ⟨[], upd_same, .nil, s0, _, rfl⟩ ?_ ?_⟩
    · rintro i σ H2 hi ⟨us, hl2, hus, sm, x1, rfl⟩
      have hul : us.length ≤ 140 := by
        have := ropesP_len n hn i
        have := pr_len hus
        omega
      have ei : (-1 : Int) + (i : Int) = (i : Int) - 1 := by omega
      rw [ei]
      refine ⟨_, rfl, .inl ⟨rfl, _, SqL.of hl2⟩, _, rfl, two, fun p hp => ?_⟩
      have s3 := same_upd (o := .tup [.int ((i : Int) - 1), .non]) hp
      have hl3 := s3 _ _ hl2
      refine ⟨l, us, _, rfl, rfl, hl3, small1000 (by omega), ?_⟩
      have gr := grow_lst (ys := us ++ [.ref p]) hl3
      have hus4 : Paired (Ta K (upd (upd H2 p (.tup [.int ((i : Int) - 1), .non])) l (.lst (us ++ [.ref p])))) (us ++ [.ref p]) ((List.range i).flatMap (ropesI n) ++ [((i : Int) - 1, none)]) := pr_snoc (pr_mono (fun _ _ z => (z.same s3).grow gr) hus) (Ta.grow gr ⟨p, rfl, SqT.of upd_same⟩)
      have hl4 : upd (upd H2 p (.tup [.int ((i : Int) - 1), .non])) l (.lst (us ++ [.ref p])) l = some (.lst (us ++ [.ref p])) := upd_same
      have sm4 : Same H (upd (upd H2 p (.tup [.int ((i : Int) - 1), .non])) l (.lst (us ++ [.ref p]))) := (sm.trans s3).upd hl0
      generalize upd (upd H2 p (.tup [.int ((i : Int) - 1), .non])) l (.lst (us ++ [.ref p])) = H4 at *
      refine ⟨_, rfl, .inl ⟨rfl, _, SqL.of hl4⟩, _, rfl, _, rfl, _, _, rfl, ⟨by omega, by omega, by omega, by omega⟩, fun D hD => ?_⟩
      have hDl : l ≠ D := fun z => by rw [← z, hl4] at hD; cases hD
      refine comp_rng (lo := (i : Int) - 1) (n := n + 1 - i) (by omega) (fun j σ' H5 => ∃ zs, H5 D = some (.lst zs) ∧ Paired (Ta K H5) zs ((List.range j).map fun (j : Nat) => ((i : Int) - 1, some ((i : Int) - 1 + (j : Int)))) ∧ Same H4 H5 ∧ ∃ y, σ' = [y, some (.int ((i : Int) - 1))])
        ⟨[], upd_same, .nil, same_upd hD, _, rfl⟩ ?_ ?_
      · rintro j σ' H5 hj ⟨zs, hD5, hzs, s5, y5, rfl⟩
        refine ⟨_, rfl, _, rfl, two, fun p6 hp6 => ?_⟩
        have s6 := same_upd (o := .tup [.int ((i : Int) - 1), .int ((i : Int) - 1 + (j : Int))]) hp6
        have hD6 := s6 _ _ hD5
        have gr6 := grow_lst (ys := zs ++ [.ref p6]) hD6
        have hzl : zs.length ≤ 20 := by
          have := pr_len hzs
          rw [List.length_map, List.length_range] at this
          omega
        refine ⟨zs, hD6, small1000 (by omega), zs ++ [.ref p6], upd_same, ?_, (s5.trans s6).upd hD, _, rfl⟩
        rw [List.range_succ, List.map_append]
        exact pr_snoc (pr_mono (fun _ _ z => (z.same s6).grow gr6) hzs) (Ta.grow gr6 ⟨p6, rfl, SqT.of upd_same⟩)
      · rintro σ' H5 ⟨zs, hD5, hzs, s5, y5, rfl⟩
        have hl5 := s5 _ _ hl4
        have hzl : zs.length ≤ 20 := by
          have := pr_len hzs
          rw [List.length_map, List.length_range] at this
          omega
        have gr5 := grow_lst (ys := (us ++ [.ref p]) ++ zs) hl5
        have two' : (1000 : Nat) ≤ sizeLine := by decide
        refine ⟨l, D, us ++ [.ref p], zs, rfl, rfl, hl5, hD5, by simp; omega, (us ++ [.ref p]) ++ zs, upd_same, ?_, (sm4.trans s5).upd hl0, _, rfl⟩
        rw [List.range_succ, List.flatMap_append]
        have e : (List.flatMap (ropesI n) [i]) = ((i : Int) - 1, none) :: (List.range (n + 1 - i)).map fun (j : Nat) => ((i : Int) - 1, some ((i : Int) - 1 + (j : Int))) := by simp [ropesI]
        rw [e]
        have e2 : ∀ (A B : List Tau) (t : Tau), A ++ t :: B = (A ++ [t]) ++ B := by simp
        rw [e2]
        exact pr_app (pr_mono (fun _ _ z => (z.same s5).grow gr5) hus4) (pr_mono (fun _ _ z => z.grow gr5) hzs)
    · rintro σ H2 ⟨us, hl2, hus, sm, x1, rfl⟩
      exact ⟨_, rfl, q l H2 us sm hl0 hl2 hus⟩
/-! longer_by_one -/
def mkey (m : M) : List Int := [m.1, 2 ^ m.2]
theorem mkey_inj (m n : M) (h : mkey m = mkey n) : m = n := by
  unfold mkey at h
  injection h with h1 h2
  injection h2 with h2 _
  exact Prod.ext h1 (pow2_inj h2)
theorem map_inj {α β : Type} {f : α → β} (h : ∀ a b, f a = f b → a = b) : ∀ {l k : List α}, l.map f = k.map f → l = k
  | [], [], _ => rfl
  | [], _ :: _, e => by simp at e
  | _ :: _, [], e => by simp at e
  | a :: l, b :: k, e => by
    rw [List.map_cons, List.map_cons] at e
    injection e with e1 e2
    rw [h a b e1, map_inj h e2]
def keyM (ms : List M) : List (List Int) := (sortP ms).map mkey
theorem keyM_iff (a b : List M) : decide (keyM a = keyM b) = decide (sortP a = sortP b) := by
  by_cases h : sortP a = sortP b
  · rw [decide_eq_true h]
    exact decide_eq_true (by unfold keyM; rw [h])
  · rw [decide_eq_false h]
    exact decide_eq_false fun z => h (map_inj mkey_inj z)
/-- a row of a walk -/
def Rw (K : PySem.W.Frag) (H0 H : Hp) (v : V) (x : Row) : Prop := ∃ p a b ps us, v = .ref p ∧ H p = some (.tup [.ref a, .ref b]) ∧ H a = some (.lst ps) ∧ Paired (Ta K H) ps x.1 ∧ H b = some (.lst us) ∧ Paired (Mo K H) us x.2 ∧ H0 a = none
abbrev H00 : Hp := fun _ => none
theorem Rw.any {H0 H : Hp} {v : V} {x : Row} (h : Rw K H0 H v x) : Rw K H00 H v x := by
  obtain ⟨p, a, b, ps, us, h1, h2, h3, h4, h5, h6, _⟩ := h
  exact ⟨p, a, b, ps, us, h1, h2, h3, h4, h5, h6, rfl⟩
theorem Rw.but {H0 H H' : Hp} {d : Addr} {f : Heap → Prop} {v : V} {x : Row} (hd : H d = some (.ext f)) (e : But d H H') (h : Rw K H0 H v x) : Rw K H0 H' v x := by
  obtain ⟨p, a, b, ps, us, h1, h2, h3, h4, h5, h6, h7⟩ := h
  have gr := growB hd e
  exact ⟨p, a, b, ps, us, h1, e _ _ (ne_of h2 hd (by intro y; cases y)) h2, e _ _ (ne_of h3 hd (by intro y; cases y)) h3, pr_mono (fun _ _ z => z.grow gr) h4, e _ _ (ne_of h5 hd (by intro y; cases y)) h5, pr_mono (fun _ _ z => z.grow gr) h6, h7⟩
theorem Rw.same {H0 H H' : Hp} {v : V} {x : Row} (e : Same H H') (h : Rw K H0 H v x) : Rw K H0 H' v x := by
  obtain ⟨p, a, b, ps, us, h1, h2, h3, h4, h5, h6, h7⟩ := h
  exact ⟨p, a, b, ps, us, h1, e _ _ h2, e _ _ h3, pr_mono (fun _ _ z => z.same e) h4, e _ _ h5, pr_mono (fun _ _ z => z.same e) h6, h7⟩
def EnR (K : PySem.W.Frag) (H0 H : Hp) (e : Ent (List (List Int))) (x : Row) : Prop := e.1 = keyM x.2 ∧ isKII K H e.1 e.2.1 ∧ Rw K H0 H e.2.2 x
theorem EnR.but {H0 H H' : Hp} {d : Addr} {f : Heap → Prop} {e : Ent (List (List Int))} {x : Row} (hd : H d = some (.ext f)) (b : But d H H') (h : EnR K H0 H e x) : EnR K H0 H' e x := ⟨h.1, h.2.1.grow (growB hd b), h.2.2.but hd b⟩
theorem EnR.same {H0 H H' : Hp} {e : Ent (List (List Int))} {x : Row} (b : Same H H') (h : EnR K H0 H e x) : EnR K H0 H' e x := ⟨h.1, h.2.1.grow b.grow, h.2.2.same b⟩
theorem dget_any {H0 H : Hp} {k : List (List Int)} : ∀ {es : List (Ent (List (List Int)))} {acc : List Row}, Paired (EnR K H0 H) es acc → (acc.any fun x => decide (keyM x.2 = k)) = (dget es k).isSome
  | _, _, .nil => rfl
  | _, _, .cons (a := e) (b := x) r t => by
    have ih := dget_any (k := k) t
    unfold dget at ih ⊢
    rw [List.any_cons, List.find?_cons, ← r.1, ih]
    by_cases h : e.1 = k
    · rw [decide_eq_true h]; rfl
    · rw [decide_eq_false h]; rfl
theorem ropes_ok {n : Nat} {r : Tau} (h : r ∈ ropesM n) : TauOk n r := by
  unfold ropesM at h
  obtain ⟨i, hi, hr⟩ := List.mem_flatMap.mp h
  have hi := List.mem_range.mp hi
  unfold ropesI at hr
  rcases List.mem_cons.mp hr with z | z
  · subst z
    exact ⟨by show -1 ≤ (i : Int) - 1; omega, by show (i : Int) - 1 < n; omega, fun o ho => by cases ho⟩
  · obtain ⟨j, hj, rfl⟩ := List.mem_map.mp z
    have hj := List.mem_range.mp hj
    refine ⟨by show -1 ≤ (i : Int) - 1; omega, by show (i : Int) - 1 < n; omega, fun o ho => ?_⟩
    cases ho
    exact ⟨by show (i : Int) - 1 ≤ (i : Int) - 1 + j; omega, by omega⟩
theorem try_ok {n : Nat} {x : Row} {acc : List Row} {r : Tau} (hx : x.2.length = n ∧ GdL x.2) (hr : TauOk n r) (h : ∀ y ∈ acc, y.2.length = n + 1 ∧ GdL y.2) : ∀ y ∈ tryL sortP x acc r, y.2.length = n + 1 ∧ GdL y.2 := by
  intro y hy
  unfold tryL at hy
  split at hy
  · exact h y hy
  · rename_i m ho
    split at hy
    · exact h y hy
    · unfold addL at hy
      split at hy
      · exact h y hy
      · rcases List.mem_append.mp hy with z | z
        · exact h y z
        · rw [List.mem_singleton.mp z]
          have gd := hx.2.out (by rw [hx.1]; exact hr) ho
          exact ⟨by simp [hx.1], hx.2.snoc gd⟩
theorem long_ok {n : Nat} {ws : List Row} (h : ∀ x ∈ ws, x.2.length = n ∧ GdL x.2) : ∀ y ∈ longM sortP n ws, y.2.length = n + 1 ∧ GdL y.2 :=
  foldl_inv (C := fun acc : List Row => ∀ y ∈ acc, y.2.length = n + 1 ∧ GdL y.2) ws [] (fun acc x hx ha => foldl_inv (C := fun acc : List Row => ∀ y ∈ acc, y.2.length = n + 1 ∧ GdL y.2) (ropesM n) acc (fun acc' r hr ha' => try_ok (h x hx) (ropes_ok hr) ha') ha) (fun y hy => by cases hy)
theorem lev_ok : ∀ n, ∀ x ∈ levM sortP n, x.2.length = n ∧ GdL x.2
  | 0, x, hx => by
    rw [show levM sortP 0 = [([], [])] from rfl] at hx
    rw [List.mem_singleton.mp hx]
    exact ⟨rfl, gdl_nil⟩
  | n + 1, x, hx => long_ok (lev_ok n) x hx
theorem try_len (x : Row) (acc : List Row) (r : Tau) : (tryL sortP x acc r).length ≤ acc.length + 1 := by
  unfold tryL
  split
  · omega
  · split
    · omega
    · unfold addL
      split <;> simp
theorem ropes_len {n : Nat} (h : n ≤ 3) : (ropesM n).length ≤ 14 := by
  have : n = 0 ∨ n = 1 ∨ n = 2 ∨ n = 3 := by omega
  rcases this with rfl | rfl | rfl | rfl <;> decide
def spLong (K : PySem.W.Frag) : Sp := fun vs H Q _ => ∃ (a : Addr) (n : Nat) (us : List V) (ws : List Row), vs = [.ref a, .int (n : Nat)] ∧ n ≤ 3 ∧ H a = some (.lst us) ∧ Paired (Rw K H00 H) us ws ∧ (∀ x ∈ ws, x.2.length = n ∧ GdL x.2 ∧ x.1.length ≤ 20) ∧ ws.length ≤ 20 ∧
  ∀ l H' us', Same H H' → H l = none → H' l = some (.lst us') → Paired (Rw K H H') us' (longM sortP n ws) → Q (.ref l) H'
theorem sc_long : FnScope ["walked", "number", "ropes", "longer", "plan", "moments", "rope", "out", "reached"] ["walked", "number"] (defScope s_longer_by_one) := ⟨rfl, rfl, rfl, by decide +kernel, rfl, by decide +kernel, by decide +kernel⟩
theorem bootSortedR : bootBuiltins "sorted" = some (.builtin "sorted") := by decide +kernel
theorem ok_long (T : Txt K mg) : OkD P w K mg base CX0 6 "longer_by_one" ["walked", "number"] (spLong K) := by
  have GR : OkD P w K mg base CX0 1 "ropes_in_order" ["number"] (spRopes K) := ok_ropes T
  have GO : OkD P w K mg base CX0 5 "out_or_none" ["number", "rope", "moments"] (spOon K) := ok_oon T
  refine T.d_longer_by_one.ok sc_long (fun vs H Q E h => ?_) (fun f cdv A outer s H vs Q E hr h => ?_)
  · obtain ⟨a, n, us, ws, rfl, _⟩ := h
    rfl
  · obtain ⟨a, n, us, ws, rfl, hn, hS, hp, hok, hwl, q⟩ := h
    have hu := hr.units
    have hu2 := Nat.lt_of_le_of_lt (Nat.add_le_add_left (by decide : 2 ≤ 64) _) hu
    have r1 : Room 1 _ := hr.mono (by decide)
    let X : Cx := (cxOf CX0 P w K mg base ["walked", "number", "ropes", "longer", "plan", "moments", "rope", "out", "reached"] "longer_by_one" (defScope s_longer_by_one) f cdv A outer s H E).nox
    refine ⟨_, (pss_cons (ps_set (i := 2) sc_long.nd rfl (Or.inl rfl) (pe_callD GR r1 pass0 (pa_cons (pv 1) pa_nil))) (pss_cons (ps_set (i := 3) sc_long.nd rfl (Or.inl rfl) (pe_dnew (tup2Kind P w))) (pss_cons (ps_for PassesOwn.never rfl (pi_list (pv 0)) (pg_tup rfl (pgs_cons (pg_name (i := 4) sc_long.nd rfl (Or.inl rfl)) (pgs_cons (pg_name (i := 5) sc_long.nd rfl (Or.inl rfl)) pgs_nil))) (pss_one (ps_for PassesOwn.never rfl (pi_list (pv 2)) (pg_name (i := 6) sc_long.nd rfl (Or.inl rfl)) (pss_cons (ps_set (i := 7) sc_long.nd rfl (Or.inl rfl) (pe_callD GO hr pass0 (pa_cons (pv 1) (pa_cons (pv 6) (pa_cons (pv 5) pa_nil))))) (pss_one (ps_if (PW.pt (pw_and (pt_cmpR op_notN (pv 7) pe_non (nomark _)) (pw_and1 (pt_cmpR (op_notInM hu) (pv 7) (pv 5) rfl)))) (pss_cons (ps_set (i := 8) sc_long.nd rfl (Or.inl rfl) (pe_op op_cat (pv 5) (pe_lst (pa_cons (pv 7) pa_nil)))) (pss_one (ps_expr (pe_dm (X := X) (knd := tup2Kind P w) PySem.F.slot_dict_setdefault PySem.F.type_dict_setdefault (mt_setdefault (keyII hu2)) (pv 3) (pa_cons (by exact pe_callTy (call_tuple_of (X := X)) rfl T.b_tuple PyProof.Rows.boot_tuple (pa_cons (by exact pe_callB (call_sortedM (X := X)) rfl T.b_sorted bootSortedR (pa_cons (pv 8) pa_nil)) pa_nil)) (pa_cons (pe_tup (pa_cons (pe_op op_cat (pv 4) (pe_lst (pa_cons (pv 6) pa_nil))) (pa_cons (pv 8) pa_nil))) pa_nil)))))) pss_nil)))))) (pss_one (ps_ret (pe_callTy (call_list_values (X := X) (knd := tup2Kind P w) hr.hd) rfl T.b_list PyProof.Rows.boot_list (pa_cons (pe_dm0 (X := X) (knd := tup2Kind P w) PySem.F.slot_dict_values PySem.F.type_dict_values (mt_values (X := X) (knd := tup2Kind P w)) (pv 3)) pa_nil))))))), ?_⟩
    have two : (2 : Nat) ≤ sizeLine := by decide
    have one : (1 : Nat) ≤ sizeLine := by decide
    have th : (1000 : Nat) ≤ sizeLine := by decide
    have hul := pr_len hp
    refine ⟨_, rfl, n, rfl, by omega, fun rl H1 rs s1 hrl0 hrl1 hrs => ?_⟩
    have hrl := pr_len hrs
    have hrlen := ropes_len hn
    intro d hd0
    have sd := same_upd (o := DO (tup2Kind P w) d []) hd0
    have hdH := s1.free hd0
    have sa := s1.trans sd
    have hda : upd H1 d (DO (tup2Kind P w) d []) d = some (DO (tup2Kind P w) d []) := upd_same
    have hSa := sa _ _ hS
    have hpa : Paired (Rw K H00 (upd H1 d (DO (tup2Kind P w) d []))) us ws := pr_mono (fun _ _ z => z.same sa) hp
    have hrla := sd _ _ hrl1
    have hrsa : Paired (Ta K (upd H1 d (DO (tup2Kind P w) d []))) rs (ropesM n) := pr_mono (fun _ _ z => z.same sd) hrs
    have nad : a ≠ d := ne_of hSa hda (by intro y; cases y)
    have nrd : rl ≠ d := ne_of hrla hda (by intro y; cases y)
    refine ⟨_, rfl, a, rfl, ⟨us, SqL.of hSa⟩, for_list (K := K) (a := a) (xs := us) (fun i σ H3 => ∃ es acc, acc = (ws.take i).foldl (longW sortP n) [] ∧ H3 d = some (DO (tup2Kind P w) d es) ∧ Paired (EnR K H H3) es acc ∧ But d (upd H1 d (DO (tup2Kind P w) d [])) H3 ∧ acc.length ≤ 14 * i ∧ ∃ x4 x5 x6 x7 x8, σ = [some (.ref a), some (.int (n : Nat)), some (.ref rl), some (.ref d), x4, x5, x6, x7, x8])
      ⟨[], [], rfl, hda, .nil, But.refl _ _, by simp, _, _, _, _, _, rfl⟩ (fun i σ H3 _ ⟨_, _, _, _, _, b3, _⟩ => SqL.of (b3 _ _ nad hSa)) ?_ ?_⟩
    · rintro i x σ H3 hi ⟨es3, acc3, eacc, hd3, hes3, b3, al3, x4, x5, x6, x7, x8, rfl⟩
      obtain ⟨wr, hwr, hRw⟩ := pr_get' hpa hi
      have hi20 : i < 20 := by have := (List.getElem?_eq_some_iff.mp hwr).1; omega
      obtain ⟨p, pa, pb, ps, ums, rfl, hp3, ha3, hps3, hb3, hums3, _⟩ := hRw.but hda b3
      obtain ⟨olen, ogd, oplan⟩ := hok wr (List.mem_of_getElem? hwr)
      have hums := pr_len hums3
      have hpsl := pr_len hps3
      have hrl3 := b3 _ _ nrd hrla
      have hrs3 : Paired (Ta K H3) rs (ropesM n) := pr_mono (fun _ _ z => z.grow (growB hda b3)) hrsa
      refine ⟨p, _, rfl, SqT.of hp3, rfl, _, _, rfl, _, _, rfl, rfl, ?_⟩
      refine ⟨_, rfl, rl, rfl, ⟨rs, SqL.of hrl3⟩, for_list (K := K) (a := rl) (xs := rs) (fun j σ H5 => ∃ es acc, acc = ((ropesM n).take j).foldl (tryL sortP wr) acc3 ∧ H5 d = some (DO (tup2Kind P w) d es) ∧ Paired (EnR K H H5) es acc ∧ But d H3 H5 ∧ acc.length ≤ acc3.length + j ∧ ∃ x6 x7 x8, σ = [some (.ref a), some (.int (n : Nat)), some (.ref rl), some (.ref d), some (.ref pa), some (.ref pb), x6, x7, x8])
        ⟨es3, acc3, rfl, hd3, hes3, But.refl _ _, by omega, _, _, _, rfl⟩ (fun j σ H5 _ ⟨_, _, _, _, _, b5, _⟩ => SqL.of (b5 _ _ nrd hrl3)) ?_ ?_⟩
      · rintro j x σ H5 hj ⟨es, acc, eacc5, hd5, hes5, b5, al5, y6, y7, y8, rfl⟩
        obtain ⟨r, hr1, hTa⟩ := pr_get' hrs3 hj
        have hj14 : j < 14 := by have := (List.getElem?_eq_some_iff.mp hr1).1; omega
        have gr5 := growB hd3 b5
        have npb : pb ≠ d := ne_of hb3 hd3 (by intro y; cases y)
        have npa : pa ≠ d := ne_of ha3 hd3 (by intro y; cases y)
        have hb5 := b5 _ _ npb hb3
        have ha5 := b5 _ _ npa ha3
        have hums5 : Paired (Mo K H5) ums wr.2 := pr_mono (fun _ _ z => z.grow gr5) hums3
        have hps5 : Paired (Ta K H5) ps wr.1 := pr_mono (fun _ _ z => z.grow gr5) hps3
        have hTa5 := hTa.grow gr5
        have step : ((ropesM n).take (j + 1)).foldl (tryL sortP wr) acc3 = tryL sortP wr acc r := by
          rw [take_snoc hr1, List.foldl_append, ← eacc5]; rfl
        have tl := try_len wr acc r
        -- nothing is put in
        have keep : tryL sortP wr acc r = acc → ∀ H6, Same H5 H6 → ∀ z7 z8, ∃ es acc, acc = ((ropesM n).take (j + 1)).foldl (tryL sortP wr) acc3 ∧ H6 d = some (DO (tup2Kind P w) d es) ∧ Paired (EnR K H H6) es acc ∧ But d H3 H6 ∧ acc.length ≤ acc3.length + (j + 1) ∧ ∃ x6 x7 x8, [some (V.ref a), some (V.int (n : Nat)), some (V.ref rl), some (V.ref d), some (V.ref pa), some (V.ref pb), some x, z7, z8] = [some (V.ref a), some (V.int (n : Nat)), some (V.ref rl), some (V.ref d), some (V.ref pa), some (V.ref pb), x6, x7, x8] := fun hk H6 s6 z7 z8 =>
          ⟨es, acc, by rw [step, hk], s6 _ _ hd5, pp_mono (fun _ _ z => z.same s6) hes5, fun b o nb z => s6 _ _ (b5 _ _ nb z), by omega, _, _, _, rfl⟩
        refine ⟨_, rfl, _, rfl, _, rfl, x, pb, wr.2, r, by rw [olen]; rfl, hTa5, ⟨ums, SqL.of hb5, hums5⟩, by rw [olen]; exact ropes_ok (List.mem_of_getElem? hr1), ogd, by omega, fun m ho v' H6 s6 hv' => ?_, fun ho H6 s6 => ?_⟩
        · obtain ⟨po, rfl, hpo⟩ := hv'
          have hb6 := s6 _ _ hb5
          have hums6 : Paired (Mo K H6) ums wr.2 := pr_mono (fun _ _ z => z.same s6) hums5
          refine ⟨_, rfl, rfl, _, rfl, iteT ⟨_, rfl, _, rfl, pb, ums, wr.2, m, rfl, SqL.of hb6, hums6, ⟨po, rfl, hpo⟩, _, rfl, ?_⟩⟩
          by_cases hin : m ∈ wr.2
          · rw [any_yes hin]
            refine iteF (keep ?_ H6 s6 _ _)
            unfold tryL
            rw [ho]
            show (if m ∈ wr.2 then acc else _) = acc
            rw [if_pos hin]
          · rw [any_no hin]
            refine iteT ⟨_, rfl, _, rfl, one, fun q1 hq1 => ?_⟩
            have s7 := same_upd (o := .lst [.ref po]) hq1
            refine ⟨pb, q1, ums, [.ref po], rfl, rfl, s7 _ _ hb6, upd_same, by simp; omega, fun rc hrc => ?_⟩
            have s8 := same_upd (o := .lst (ums ++ [.ref po])) hrc
            have s58 := s6.trans (s7.trans s8)
            have s68 := s7.trans s8
            have hrc8 : upd (upd H6 q1 (.lst [.ref po])) rc (.lst (ums ++ [.ref po])) rc = some (.lst (ums ++ [.ref po])) := upd_same
            have hrm8 : Paired (Mo K (upd (upd H6 q1 (.lst [.ref po])) rc (.lst (ums ++ [.ref po])))) (ums ++ [.ref po]) (wr.2 ++ [m]) := pr_snoc (pr_mono (fun _ _ z => z.same s68) hums6) (Mo.same s68 ⟨po, rfl, hpo⟩)
            generalize upd (upd H6 q1 (.lst [.ref po])) rc (.lst (ums ++ [.ref po])) = H8 at *
            have hd8 := s58 _ _ hd5
            refine ⟨_, rfl, ⟨d, es, rfl, hd8⟩, _, rfl, rc, _, wr.2 ++ [m], rfl, SqL.of hrc8, hrm8, by simp, by simp [olen]; omega, fun D sv hD hsv => ?_⟩
            refine ⟨D, sv, rfl, .inl ⟨SqL.of upd_same, fun kt hkt => ?_⟩⟩
            have s9 := same_upd (o := .lst sv) hD
            have s10 := same_upd (o := .tup sv) hkt
            refine ⟨_, rfl, _, rfl, one, fun q2 hq2 => ?_⟩
            have s11 := same_upd (o := .lst [x]) hq2
            have s8b := s9.trans (s10.trans s11)
            refine ⟨pa, q2, ps, [x], rfl, rfl, (s58.trans s8b) _ _ ha5, upd_same, by simp; omega, fun pl hpl => ⟨_, rfl, two, fun pr hpr => ?_⟩⟩
            have s12 := same_upd (o := .lst (ps ++ [x])) hpl
            have s13 := same_upd (o := .tup [.ref pl, .ref rc]) hpr
            have s813 := s8b.trans (s12.trans s13)
            have hkey : isKII K (upd (upd (upd (upd (upd H8 D (.lst sv)) kt (.tup sv)) q2 (.lst [x])) pl (.lst (ps ++ [x]))) pr (.tup [.ref pl, .ref rc])) (keyM (wr.2 ++ [m])) kt := by
              refine ⟨sv, SqT.of ((s11.trans (s12.trans s13)) kt _ upd_same), ?_⟩
              have hsv' := pr_mono (S := fun v m => ∃ q, v = V.ref q ∧ SqT K (upd (upd (upd (upd (upd H8 D (.lst sv)) kt (.tup sv)) q2 (.lst [x])) pl (.lst (ps ++ [x]))) pr (.tup [.ref pl, .ref rc])) q ((mkey m).map V.int)) (fun v m hm => by
                obtain ⟨q, e, hq⟩ := Mo.same (s10.trans (s11.trans (s12.trans s13))) hm
                exact ⟨q, e, hq⟩) hsv
              have := pp_map2 (f := id) (g := mkey) (R := fun v ks => ∃ q, v = V.ref q ∧ SqT K (upd (upd (upd (upd (upd H8 D (.lst sv)) kt (.tup sv)) q2 (.lst [x])) pl (.lst (ps ++ [x]))) pr (.tup [.ref pl, .ref rc])) q (ks.map V.int)) (fun _ _ z => z) hsv'
              rw [List.map_id] at this
              exact this
            have sH5 : Same H H5 := fun b o z => b5 _ _ (ne_of_none z hdH) (b3 _ _ (ne_of_none z hdH) (sa _ _ z))
            have sHpl : H pl = none := (sH5.trans (s58.trans s8b)).free hpl
            have hrow : Rw K H (upd (upd (upd (upd (upd H8 D (.lst sv)) kt (.tup sv)) q2 (.lst [x])) pl (.lst (ps ++ [x]))) pr (.tup [.ref pl, .ref rc])) (.ref pr) (wr.1 ++ [r], wr.2 ++ [m]) :=
              ⟨pr, pl, rc, ps ++ [x], ums ++ [.ref po], rfl, upd_same, s13 pl _ upd_same, pr_snoc (pr_mono (fun _ _ z => z.same (s58.trans s813)) hps5) (hTa5.same (s58.trans s813)), s813 _ _ hrc8, pr_mono (fun _ _ z => z.same s813) hrm8, sHpl⟩
            have hd13 := s813 _ _ hd8
            have hes13 : Paired (EnR K H (upd (upd (upd (upd (upd H8 D (.lst sv)) kt (.tup sv)) q2 (.lst [x])) pl (.lst (ps ++ [x]))) pr (.tup [.ref pl, .ref rc]))) es acc := pp_mono (fun _ _ z => z.same (s58.trans s813)) hes5
            have s513 := s58.trans s813
            generalize upd (upd (upd (upd (upd H8 D (.lst sv)) kt (.tup sv)) q2 (.lst [x])) pl (.lst (ps ++ [x]))) pr (.tup [.ref pl, .ref rc]) = H13 at *
            have hesl := pp_len hes13
            have hany := dget_any (k := keyM (wr.2 ++ [m])) hes13
            have etry : tryL sortP wr acc r = if (dget es (keyM (wr.2 ++ [m]))).isSome = true then acc else acc ++ [(wr.1 ++ [r], wr.2 ++ [m])] := by
              unfold tryL
              rw [ho]
              show (if m ∈ wr.2 then acc else addL sortP acc (wr.1 ++ [r], wr.2 ++ [m])) = _
              rw [if_neg hin]
              unfold addL
              rw [← hany]
              simp only [keyM_iff]
            refine ⟨d, kt, .ref pr, keyM (wr.2 ++ [m]), es, rfl, rfl, hd13, hkey, (fun e he => by
              obtain ⟨y, _, hy⟩ := pp_mem hes13 e he
              exact hy.2.1), by omega, fun u hu => ?_, fun hn => ?_⟩
            · refine keep ?_ H13 s513 _ _
              rw [etry, hu]
              rfl
            · rw [hn] at etry
              have etry' : tryL sortP wr acc r = acc ++ [(wr.1 ++ [r], wr.2 ++ [m])] := etry
              have bD : But d H13 (upd H13 d (DO (tup2Kind P w) d (es ++ [(keyM (wr.2 ++ [m]), kt, .ref pr)]))) := fun b o nb z => by rw [upd_ne nb]; exact z
              refine ⟨_, acc ++ [(wr.1 ++ [r], wr.2 ++ [m])], by rw [step, etry'], upd_same, pp_snoc (EnR.but hd13 bD ⟨rfl, hkey, hrow⟩) (pp_mono (fun _ _ z => z.but hd13 bD) hes13), fun b o nb z => bD _ _ nb (s513 _ _ (b5 _ _ nb z)), by simp; omega, _, _, _, rfl⟩
        · refine ⟨_, rfl, rfl, _, rfl, iteF (iteF (keep ?_ H6 s6 _ _))⟩
          unfold tryL
          rw [ho]
      · rintro σ H5 ⟨es, acc, eacc5, hd5, hes5, b5, al5, y6, y7, y8, rfl⟩
        rw [List.take_of_length_le (by omega)] at eacc5
        refine ⟨es, acc, ?_, hd5, hes5, fun b o nb z => b5 _ _ nb (b3 _ _ nb z), by omega, _, _, _, _, _, rfl⟩
        rw [take_snoc hwr, List.foldl_append, ← eacc]
        exact eacc5
    · rintro σ H3 ⟨es3, acc3, eacc, hd3, hes3, b3, al3, x4, x5, x6, x7, x8, rfl⟩
      rw [List.take_of_length_le (by omega)] at eacc
      have sH3 : Same H H3 := fun b o z => b3 _ _ (ne_of_none z hdH) (sa _ _ z)
      refine ⟨_, rfl, ⟨d, es3, rfl, hd3⟩, d, es3, rfl, rfl, hd3, fun va hva => ?_⟩
      have s4 := same_upd (o := VV va d) hva
      refine ⟨va, d, es3, rfl, upd_same, s4 _ _ hd3, fun l hl => ?_⟩
      have s5 := same_upd (o := .lst (es3.map fun e => e.2.2)) hl
      refine q l _ _ (sH3.trans (s4.trans s5)) ((sH3.trans s4).free hl) upd_same ?_
      rw [show longM sortP n ws = acc3 from eacc.symm]
      exact pp_map (fun e y hy => hy.2.2.same (s4.trans s5)) hes3
end

/-! ### first_plans -/
section
variable {P : Program} {w : World} {K : PySem.W.Frag} {mg : Str → Option Value} {base : Heap}
def FnR (K : PySem.W.Frag) (H0 H : Hp) (e : Ent (List Int)) (x : M × List Tau) : Prop := e.1 = mkey x.1 ∧ isKI K H e.1 e.2.1 ∧ ∃ a ps, e.2.2 = .ref a ∧ H a = some (.lst ps) ∧ Paired (Ta K H) ps x.2 ∧ H0 a = none
theorem FnR.same {H0 H H' : Hp} {e : Ent (List Int)} {x : M × List Tau} (s : Same H H') (h : FnR K H0 H e x) : FnR K H0 H' e x := by
  obtain ⟨h1, h2, a, ps, h3, h4, h5, h6⟩ := h
  exact ⟨h1, h2.same s, a, ps, h3, s _ _ h4, pr_mono (fun _ _ z => z.same s) h5, h6⟩
theorem FnR.but {H0 H H' : Hp} {d : Addr} {f : Heap → Prop} {e : Ent (List Int)} {x : M × List Tau} (hd : H d = some (.ext f)) (s : But d H H') (h : FnR K H0 H e x) : FnR K H0 H' e x := by
  obtain ⟨h1, h2, a, ps, h3, h4, h5, h6⟩ := h
  have gr := growB hd s
  exact ⟨h1, h2.grow gr, a, ps, h3, s _ _ (ne_of h4 hd (by intro y; cases y)) h4, pr_mono (fun _ _ z => z.grow gr) h5, h6⟩
theorem dget_anyF {H0 H : Hp} {m : M} : ∀ {es : List (Ent (List Int))} {acc : List (M × List Tau)}, Paired (FnR K H0 H) es acc → (acc.any fun x => decide (x.1 = m)) = (dget es (mkey m)).isSome
  | _, _, .nil => rfl
  | _, _, .cons (a := e) (b := x) r t => by
    have ih := dget_anyF (m := m) t
    unfold dget at ih ⊢
    rw [List.any_cons, List.find?_cons, r.1, ih]
    by_cases h : x.1 = m
    · rw [decide_eq_true h, decide_eq_true (by rw [h])]; rfl
    · rw [decide_eq_false h, decide_eq_false (fun z => h (mkey_inj _ _ z))]; rfl
theorem lev_len : ([0, 1, 2, 3] : List Nat).all (fun n => decide ((levM sortP n).length ≤ 20)) = true := by decide +kernel
theorem lev_len4 : ([1, 2, 3, 4] : List Nat).all (fun n => decide ((levM sortP n).length ≤ 100) && decide ((fpM sortP n).length ≤ 100)) = true := by decide +kernel
theorem long_plan {n : Nat} {ws : List Row} (h : ∀ x ∈ ws, x.1.length = n) : ∀ y ∈ longM sortP n ws, y.1.length = n + 1 :=
  foldl_inv (C := fun acc : List Row => ∀ y ∈ acc, y.1.length = n + 1) ws [] (fun acc x hx ha => foldl_inv (C := fun acc : List Row => ∀ y ∈ acc, y.1.length = n + 1) (ropesM n) acc (fun acc' r hr ha' y hy => by
    unfold tryL at hy
    split at hy
    · exact ha' y hy
    · split at hy
      · exact ha' y hy
      · unfold addL at hy
        split at hy
        · exact ha' y hy
        · rcases List.mem_append.mp hy with z | z
          · exact ha' y z
          · rw [List.mem_singleton.mp z]; simp [h x hx]) ha) (fun y hy => by cases hy)
theorem lev_plan : ∀ n, ∀ x ∈ levM sortP n, x.1.length = n
  | 0, x, hx => by
    rw [show levM sortP 0 = [([], [])] from rfl] at hx
    rw [List.mem_singleton.mp hx]; rfl
  | n + 1, x, hx => long_plan (lev_plan n) x hx
def spFirst (P : Program) (w : World) (K : PySem.W.Frag) : Sp := fun vs H Q _ => ∃ n : Nat, vs = [.int (n : Nat)] ∧ n ≤ 4 ∧
  ∀ d H' es, Same H H' → H d = none → H' d = some (DO (tupleKind (PySem.intKind P w)) d es) → Paired (FnR K H H') es (fpM sortP n) → Q (.ref d) H'
theorem sc_first : FnScope ["most", "found", "walked", "number", "plan", "moments"] ["most"] (defScope s_first_plans) := ⟨rfl, rfl, rfl, by decide +kernel, rfl, by decide +kernel, by decide +kernel⟩
theorem found_len (acc : List (M × List Tau)) (x : Row) : (foundL acc x).length ≤ acc.length + 1 := by
  unfold foundL
  split <;> simp
theorem atI_last {vs : List V} {n : Nat} {v : V} (hl : vs.length = n + 1) (h : vs[n]? = some v) : atI vs (-1) = some v := by
  have e : ixN vs.length (-1) = some n := by
    unfold ixN
    rw [hl]
    rw [if_neg (by omega)]
    first
      | (rw [if_pos (by omega)]; congr 1; omega)
      | (simp; omega)
  unfold atI
  rw [e]
  exact h
theorem ok_first (T : Txt K mg) : OkD P w K mg base CX0 7 "first_plans" ["most"] (spFirst P w K) := by
  have GL : OkD P w K mg base CX0 6 "longer_by_one" ["walked", "number"] (spLong K) := ok_long T
  refine T.d_first_plans.ok sc_first (fun vs H Q E h => ?_) (fun f cdv A outer s H vs Q E hr h => ?_)
  · obtain ⟨n, rfl, _⟩ := h
    rfl
  · obtain ⟨n, rfl, hn, q⟩ := h
    have hu := hr.units
    have hu1 := Nat.lt_of_le_of_lt (Nat.add_le_add_left (by decide : 1 ≤ 64) _) hu
    refine ⟨_, (pss_cons (ps_set (i := 1) sc_first.nd rfl (Or.inl rfl) (pe_dnew (tupleKind (PySem.intKind P w)))) (pss_cons (ps_set (i := 2) sc_first.nd rfl (Or.inl rfl) (pe_lst (pa_cons (pe_tup (pa_cons (pe_lst pa_nil) (pa_cons (pe_lst pa_nil) pa_nil))) pa_nil))) (pss_cons (ps_for PassesOwn.never rfl (pi_range1 rfl T.b_range (pa_cons (pv 0) pa_nil)) (pg_name (i := 3) sc_first.nd rfl (Or.inl rfl)) (pss_cons (ps_set (i := 2) sc_first.nd rfl (Or.inl rfl) (pe_callD GL hr pass0 (pa_cons (pv 2) (pa_cons (pv 3) pa_nil)))) (pss_one (ps_for PassesOwn.never rfl (pi_list (pv 2)) (pg_tup rfl (pgs_cons (pg_name (i := 4) sc_first.nd rfl (Or.inl rfl)) (pgs_cons (pg_name (i := 5) sc_first.nd rfl (Or.inl rfl)) pgs_nil))) (pss_one (ps_expr (by exact pe_dm (knd := tupleKind (PySem.intKind P w)) PySem.F.slot_dict_setdefault PySem.F.type_dict_setdefault (mt_setdefault (keyI hu1)) (pv 1) (pa_cons (pe_ix ix_list (pv 5) (pe_un un_neg pe_int) (fun _ _ => rfl)) (pa_cons (pv 4) pa_nil))))))))) (pss_one (ps_ret (pv 1)))))), ?_⟩
    have two : (2 : Nat) ≤ sizeLine := by decide
    have one : (1 : Nat) ≤ sizeLine := by decide
    intro d hd0
    refine ⟨Nat.zero_le _, fun a0 ha0 => ⟨Nat.zero_le _, fun b0 hb0 => ⟨two, fun p0 hp0 => ⟨one, fun w0 hw0 => ?_⟩⟩⟩⟩
    have s1 : Same H (upd H d (DO (tupleKind (PySem.intKind P w)) d [])) := same_upd hd0
    have s2 := same_upd (o := .lst []) ha0
    have s3 := same_upd (o := .lst []) hb0
    have s4 := same_upd (o := .tup [.ref a0, .ref b0]) hp0
    have s5 := same_upd (o := .lst [.ref p0]) hw0
    have s25 := s2.trans (s3.trans (s4.trans s5))
    have row0 : Paired (Rw K H00 (upd (upd (upd (upd (upd H d (DO (tupleKind (PySem.intKind P w)) d [])) a0 (.lst [])) b0 (.lst [])) p0 (.tup [.ref a0, .ref b0])) w0 (.lst [.ref p0]))) [.ref p0] (levM sortP 0) :=
      .cons ⟨p0, a0, b0, [], [], rfl, s5 p0 _ upd_same, (s3.trans (s4.trans s5)) a0 _ upd_same, .nil, (s4.trans s5) b0 _ upd_same, .nil, rfl⟩ .nil
    have hd5 := s25 d _ upd_same
    have s15 := s1.trans s25
    have hw5 : upd (upd (upd (upd (upd H d (DO (tupleKind (PySem.intKind P w)) d [])) a0 (.lst [])) b0 (.lst [])) p0 (.tup [.ref a0, .ref b0])) w0 (.lst [.ref p0]) w0 = some (.lst [.ref p0]) := upd_same
    refine ⟨_, rfl, _, rfl, by omega, by omega, for_range (n := n) (fun t σ H2 => ∃ wa us es, H2 wa = some (.lst us) ∧ Paired (Rw K H00 H2) us (levM sortP t) ∧ H2 d = some (DO (tupleKind (PySem.intKind P w)) d es) ∧ Paired (FnR K H H2) es (fpM sortP t) ∧ Same H H2 ∧ ∃ x3 x4 x5, σ = [some (.int (n : Nat)), some (.ref d), some (.ref wa), x3, x4, x5])
      ⟨w0, [.ref p0], [], hw5, row0, hd5, .nil, s15, _, _, _, rfl⟩ ?_ ?_⟩
    · rintro t σ H2 ht ⟨wa, us, es, hwa, hus, hd2, hes, sm, x3, x4, x5, rfl⟩
      have e4 : (0 + (t : Int)) = (t : Int) := by omega
      rw [e4]
      have ht3 : t ∈ ([0, 1, 2, 3] : List Nat) := by
        have : t = 0 ∨ t = 1 ∨ t = 2 ∨ t = 3 := by omega
        simpa using this
      have hlv : (levM sortP t).length ≤ 20 := of_decide_eq_true (List.all_eq_true.mp lev_len t ht3)
      have ht4 : t + 1 ∈ ([1, 2, 3, 4] : List Nat) := by
        have : t = 0 ∨ t = 1 ∨ t = 2 ∨ t = 3 := by omega
        rcases this with rfl | rfl | rfl | rfl <;> simp
      have hl4 := List.all_eq_true.mp lev_len4 (t + 1) ht4
      simp only [Bool.and_eq_true, decide_eq_true_eq] at hl4
      have hfp : (fpM sortP t).length ≤ 100 := by
        rcases Nat.eq_zero_or_pos t with z | z
        · subst z; show ([] : List (M × List Tau)).length ≤ 100; simp
        · have ht5 : t ∈ ([1, 2, 3, 4] : List Nat) := by
            have : t = 1 ∨ t = 2 ∨ t = 3 := by omega
            rcases this with rfl | rfl | rfl <;> simp
          have h5 := List.all_eq_true.mp lev_len4 t ht5
          simp only [Bool.and_eq_true, decide_eq_true_eq] at h5
          exact h5.2
      refine ⟨_, rfl, _, rfl, wa, t, us, levM sortP t, rfl, by omega, hwa, hus, fun x hx => ⟨(lev_ok t x hx).1, (lev_ok t x hx).2, by rw [lev_plan t x hx]; omega⟩, hlv, fun wl H3 ul s3 hwl0 hwl hul => ?_⟩
      have hd3 := s3 _ _ hd2
      have hes3 : Paired (FnR K H H3) es (fpM sortP t) := pp_mono (fun _ _ z => z.same s3) hes
      have nwd : wl ≠ d := ne_of hwl hd3 (by intro y; cases y)
      have hdH : H d = none := hd0
      have hull := pr_len hul
      have elev : longM sortP t (levM sortP t) = levM sortP (t + 1) := rfl
      rw [elev] at hul hull
      refine ⟨_, rfl, wl, rfl, ⟨ul, SqL.of hwl⟩, for_list (K := K) (a := wl) (xs := ul) (fun i σ H5 => ∃ es acc, acc = ((levM sortP (t + 1)).take i).foldl foundL (fpM sortP t) ∧ H5 d = some (DO (tupleKind (PySem.intKind P w)) d es) ∧ Paired (FnR K H H5) es acc ∧ But d H3 H5 ∧ acc.length ≤ 100 + i ∧ ∃ x4 x5, σ = [some (.int (n : Nat)), some (.ref d), some (.ref wl), some (.int (t : Nat)), x4, x5])
        ⟨es, fpM sortP t, rfl, hd3, hes3, But.refl _ _, by omega, _, _, rfl⟩ (fun i σ H5 _ ⟨_, _, _, _, _, b5, _⟩ => SqL.of (b5 _ _ nwd hwl)) ?_ ?_⟩
      · rintro i x σ H5 hi ⟨es5, acc, eacc, hd5, hes5, b5, al5, y4, y5, rfl⟩
        obtain ⟨wr, hwr, hRw⟩ := pr_get' hul hi
        have hi100 : i < 100 := by
          have h1 := (List.getElem?_eq_some_iff.mp hwr).1
          have h2 : (levM sortP (t + 1)).length ≤ 100 := hl4.1
          omega
        obtain ⟨p, pa, pb, ps, ums, rfl, hp5, ha5, hps5, hb5, hums5, hpa0⟩ := hRw.but hd3 b5
        have hlen := (lev_ok (t + 1) wr (List.mem_of_getElem? hwr)).1
        have huml := pr_len hums5
        obtain ⟨mm, hx⟩ : ∃ mm, wr.2[t]? = some mm := ⟨_, List.getElem?_eq_getElem (by omega)⟩
        obtain ⟨v, hv, hmo⟩ := pr_get hums5 hx
        have elast : lastM wr.2 = mm := by
          unfold lastM
          rw [hlen, Nat.add_sub_cancel, List.getD_eq_getElem?_getD, hx]; rfl
        obtain ⟨pm, rfl, hpm⟩ := hmo
        refine ⟨p, _, rfl, SqT.of hp5, rfl, _, _, rfl, _, _, rfl, rfl, ?_⟩
        have fl := found_len acc wr
        have hesl := pp_len hes5
        have th : (1000 : Nat) ≤ sizeLine := by decide
        have step : ((levM sortP (t + 1)).take (i + 1)).foldl foundL (fpM sortP t) = foundL acc wr := by
          rw [take_snoc hwr, List.foldl_append, ← eacc]; rfl
        have hany := dget_anyF (m := lastM wr.2) hes5
        have efound : foundL acc wr = if (dget es5 (mkey (lastM wr.2))).isSome = true then acc else acc ++ [(lastM wr.2, wr.1)] := by
          unfold foundL
          rw [← hany]
        have hkey : isKI K H5 (mkey (lastM wr.2)) pm := by rw [elast]; exact hpm
        refine ⟨_, rfl, ⟨d, es5, rfl, hd5⟩, _, rfl, _, rfl, pb, ums, _, .ref pm, rfl, rfl, SqL.of hb5, atI_last (by rw [huml, hlen]) hv, _, rfl, d, pm, .ref pa, mkey (lastM wr.2), es5, rfl, rfl, hd5, hkey, (fun e he => by
          obtain ⟨y, _, hy⟩ := pp_mem hes5 e he
          exact hy.2.1), by omega, fun u hu => ?_, fun hn => ?_⟩
        · rw [hu] at efound
          have efound' : foundL acc wr = acc := efound
          exact ⟨es5, acc, by rw [step, efound'], hd5, hes5, b5, by omega, _, _, rfl⟩
        · rw [hn] at efound
          have efound' : foundL acc wr = acc ++ [(lastM wr.2, wr.1)] := efound
          have bD : But d H5 (upd H5 d (DO (tupleKind (PySem.intKind P w)) d (es5 ++ [(mkey (lastM wr.2), pm, .ref pa)]))) := fun b o nb z => by rw [upd_ne nb]; exact z
          refine ⟨_, acc ++ [(lastM wr.2, wr.1)], by rw [step, efound'], upd_same, pp_snoc (FnR.but hd5 bD ⟨rfl, hkey, pa, ps, rfl, ha5, hps5, sm.free hpa0⟩) (pp_mono (fun _ _ z => z.but hd5 bD) hes5), fun b o nb z => bD _ _ nb (b5 _ _ nb z), by simp; omega, _, _, rfl⟩
      · rintro σ H5 ⟨es5, acc, eacc, hd5, hes5, b5, al5, y4, y5, rfl⟩
        rw [List.take_of_length_le (by omega)] at eacc
        have efp : acc = fpM sortP (t + 1) := eacc
        subst efp
        refine ⟨wl, ul, es5, b5 _ _ nwd hwl, pr_mono (fun _ _ z => (z.but hd3 b5).any) hul, hd5, hes5, fun b o z => b5 _ _ (ne_of_none z hdH) (s3 _ _ (sm _ _ z)), _, _, _, rfl⟩
    · rintro σ H2 ⟨wa, us, es, hwa, hus, hd2, hes, sm, x3, x4, x5, rfl⟩
      exact ⟨_, rfl, q d H2 es sm hd0 hd2 hes⟩
end

/-! ### measured -/
section
variable {P : Program} {w : World} {K : PySem.W.Frag} {mg : Str → Option Value} {base : Heap} {Tb : Addr}
def chkL (ks R : List M) : Bool := ks.all (fun m => decide (m ∈ R)) && (R.all (fun m => decide (m ∈ ks)) && (decide ks.Nodup && (decide (R.Pairwise fun a b => vl 40 a < vl 40 b) && (R.all (fun m => decide (m.2 ≤ 10) && (decide (0 ≤ m.1) && (decide (vl 40 m ≤ 40 * 2 ^ 40) && (decide (m.2 = 0) || decide (m.1 % 2 = 1))))) && (decide (0 < ks.length) && (decide (ks.length < 64) && decide (R.length ≤ 100)))))))
theorem chkF_all : ([1, 2, 3, 4] : List Nat).all (fun n => chkL ((fpM sortP n).map (·.1)) (reachM n n).1) = true := by decide +kernel
theorem chkF {n : Nat} (h1 : 1 ≤ n) (h4 : n ≤ 4) : (∀ m, m ∈ (fpM sortP n).map (·.1) ↔ m ∈ (reachM n n).1) ∧ ((fpM sortP n).map (·.1)).Nodup ∧ SS (reachM n n).1 ∧ (∀ m ∈ (reachM n n).1, Gd 40 m ∧ m.2 ≤ 10) ∧ 0 < (fpM sortP n).length ∧ (fpM sortP n).length < 64 ∧ (reachM n n).1.length ≤ 100 := by
  have hn : n ∈ ([1, 2, 3, 4] : List Nat) := by
    have : n = 1 ∨ n = 2 ∨ n = 3 ∨ n = 4 := by omega
    simpa using this
  have h := List.all_eq_true.mp chkF_all n hn
  unfold chkL at h
  simp only [Bool.and_eq_true, Bool.or_eq_true, decide_eq_true_eq, List.all_eq_true, List.length_map] at h
  obtain ⟨a1, a2, a3, a4, a5, a6, a7, a8⟩ := h
  exact ⟨fun m => ⟨a1 m, a2 m⟩, a3, a4, fun m hm => ⟨⟨Nat.le_trans (a5 m hm).1 (by decide), (a5 m hm).2.1, (a5 m hm).2.2.1, (a5 m hm).2.2.2⟩, (a5 m hm).1⟩, a6, a7, a8⟩
def spMeas (K : PySem.W.Frag) (Tb : Addr) : Sp := fun vs H Q _ => ∃ n : Nat, vs = [.int (n : Nat)] ∧ 1 ≤ n ∧ n ≤ 4 ∧ TabO H Tb ∧
  ∀ (D : Addr) (H' : Hp) (us : List V), But Tb H H' → TabO H' Tb → H D = none → H' D = some (.lst us) → Paired (Mo K H') us (reachM n n).1 → Q (.ref D) H'
theorem sc_meas : FnScope ["most"] ["most"] (defScope s_measured) := ⟨rfl, rfl, rfl, by decide +kernel, rfl, by decide +kernel, by decide +kernel⟩
theorem ok_meas (T : Txt K mg) (U : Tab K mg Tb) (Bm : BMod mg base) : OkD P w K mg base CX0 8 "measured" ["most"] (spMeas K Tb) := by
  have GF : OkD P w K mg base CX0 7 "first_plans" ["most"] (spFirst P w K) := ok_first T
  have GI : OkD P w K mg base CX0 5 "in_order" ["moments"] (spOrd K Tb) := ok_order T U Bm
  refine T.d_measured.ok sc_meas (fun vs H Q E h => ?_) (fun f cdv A outer s H vs Q E hr h => ?_)
  · obtain ⟨n, rfl, _⟩ := h
    rfl
  · obtain ⟨n, rfl, n1, n4, hT, q⟩ := h
    have r5 : Room 5 _ := hr.mono (by decide)
    refine ⟨_, pss_one (ps_ret (pe_callD GI r5 pass0 (pa_cons (pe_callTy (call_list_dict (knd := tupleKind (PySem.intKind P w)) hr.hd) rfl T.b_list PyProof.Rows.boot_list (pa_cons (pe_callD GF hr pass0 (pa_cons (pv 0) pa_nil)) pa_nil)) pa_nil))), ?_⟩
    obtain ⟨c1, c2, c3, c4, c5, c6, c7⟩ := chkF n1 n4
    refine ⟨_, rfl, n, rfl, n4, fun d H1 es s1 hd0 hd1 hes => ⟨d, es, rfl, hd1, fun l hl => ?_⟩⟩
    have s2 := same_upd (o := .lst (es.map fun e => V.ref e.2.1)) hl
    have s12 := s1.trans s2
    have hmo : Paired (Mo K (upd H1 l (.lst (es.map fun e => V.ref e.2.1)))) (es.map fun e => V.ref e.2.1) ((fpM sortP n).map (·.1)) := pp_map2 (fun e x hx => by
      obtain ⟨h1, h2, _⟩ := hx
      rw [h1] at h2
      exact ⟨_, rfl, h2.same s2⟩) hes
    refine ⟨l, (fpM sortP n).map (·.1), rfl, ⟨_, SqL.of upd_same, hmo⟩, by rw [List.length_map]; exact c5, by rw [List.length_map]; exact c6, fun m hm => (c4 m ((c1 m).mp hm)).1.small (Nat.le_refl _), hT.same s12, fun D H' us zs N bu tb hD hD' hus pm hle hat hso => ?_⟩
    have hbz : ∀ m ∈ zs, Bd m := fun m hm => (c4 m ((c1 m).mp (pm.mem_iff.mp hm))).1.bd (Nat.le_refl _)
    have hN : N ≤ 40 := by
      obtain ⟨m, hm, e⟩ := hat
      rw [e]; exact (c4 m ((c1 m).mp hm)).1.e
    have ez : zs = (reachM n n).1 := ss_uniq zs _ (ss_of hso (pm.nodup_iff.mpr c2) (fun m hm => hle m (pm.mem_iff.mp hm)) hN hbz) c3 fun m => by rw [pm.mem_iff]; exact c1 m
    subst ez
    exact q D H' us (s12.but.trans bu) tb (s12.free hD) hD' hus
end

/-! ### next_moment -/
section
variable {P : Program} {w : World} {K : PySem.W.Frag} {mg : Str → Option Value} {base : Heap} {Tb : Addr}
theorem mom_fit (c : Int) : Small (momN c) ∧ Lo (momN c) := by
  have c0 : 0 ≤ c % 9 := Int.emod_nonneg _ (by decide)
  have c9 : c % 9 < 9 := Int.emod_lt_of_pos _ (by decide)
  have hp := Rope.pow_pos (c % 9).toNat
  have hq : (2 : Int) ^ (c % 9).toNat ≤ 2 ^ 8 := Rope.pow_le (by omega)
  have h0 : 0 ≤ c / 9 % (6 * 2 ^ (c % 9).toNat) := Int.emod_nonneg _ (by omega)
  have h1 : c / 9 % (6 * 2 ^ (c % 9).toNat) < 6 * 2 ^ (c % 9).toNat := Int.emod_lt_of_pos _ (by omega)
  obtain ⟨l1, l2⟩ := lowN_nonneg (c % 9).toNat _ h0
  have e8 : (momN c).2 ≤ 8 := Nat.le_trans (lowN_le _ _) (by omega)
  refine ⟨⟨?_, by omega⟩, by show _ ≤ 40; omega⟩
  have h2 : (momN c).1.natAbs < 2 ^ 100 := by
    unfold momN
    omega
  exact Nat.lt_of_lt_of_le h2 (Nat.pow_le_pow_right (by decide) (by decide))
def spNext (K : PySem.W.Frag) (Tb : Addr) : Sp := fun vs H Q _ => ∃ (v : V) (t : M) (n : Nat), vs = [v, .int (n : Nat)] ∧ Mo K H v t ∧ Small t ∧ 1 ≤ n ∧ n ≤ 4 ∧ TabO H Tb ∧
  ((reachM n n).1.filter (fun m => lessM t m) = [] → ∀ H', But Tb H H' → Q .non H') ∧
  (∀ m ms, (reachM n n).1.filter (fun m => lessM t m) = m :: ms → ∀ v' H', But Tb H H' → Mo K H' v' m → Q v' H')
theorem sc_next : FnScope ["moment", "most", "later"] ["moment", "most"] (defScope s_next_moment) := ⟨rfl, rfl, rfl, by decide +kernel, rfl, by decide +kernel, by decide +kernel⟩
theorem ok_next (T : Txt K mg) (U : Tab K mg Tb) (Bm : BMod mg base) : OkD P w K mg base CX0 9 "next_moment" ["moment", "most"] (spNext K Tb) := by
  have GM : OkD P w K mg base CX0 8 "measured" ["most"] (spMeas K Tb) := ok_meas T U Bm
  have GE : OkD P w K mg base CX0 3 "earlier" ["one", "other"] (sp2b K lessM) := ok_earlier T
  refine T.d_next_moment.ok sc_next (fun vs H Q E h => ?_) (fun f cdv A outer s H vs Q E hr h => ?_)
  · obtain ⟨v, t, n, rfl, _⟩ := h
    rfl
  · obtain ⟨v, t, n, rfl, hv, st, n1, n4, hT, qn, qs⟩ := h
    have r3 : Room 3 _ := hr.mono (by decide)
    refine ⟨_, (pss_cons (ps_for PassesOwn.never rfl (pi_list (pe_callD GM hr pass0 (pa_cons (pv 1) pa_nil))) (pg_name (i := 2) sc_next.nd rfl (Or.inl rfl)) (pss_one (ps_if (pt_val (pe_callD GE r3 pass0 (pa_cons (pv 0) (pa_cons (pv 2) pa_nil)))) (pss_one (ps_ret (pv 2))) pss_nil))) (pss_one (ps_ret pe_non))), ?_⟩
    obtain ⟨c1, c2, c3, c4, c5, c6, c7⟩ := chkF n1 n4
    refine ⟨_, rfl, n, rfl, n1, n4, hT, fun D H1 us bu hT1 hD0 hD1 hus => ?_⟩
    obtain ⟨tq, hTb, _⟩ := id hT
    have hv1 : Mo K H1 v t := by
      obtain ⟨p, e, hp⟩ := hv
      exact ⟨p, e, bu.tupT hTb hp⟩
    have hul := pr_len hus
    refine ⟨D, rfl, ⟨us, SqL.of hD1⟩, for_list (K := K) (a := D) (xs := us) (fun i σ H2 => H2 = H1 ∧ ((reachM n n).1.take i).filter (fun m => lessM t m) = [] ∧ ∃ x, σ = [some v, some (.int (n : Nat)), x])
      ⟨rfl, rfl, _, rfl⟩ (fun i σ H2 _ ⟨e, _⟩ => by rw [e]; exact SqL.of hD1) ?_ ?_⟩
    · rintro i x σ H2 hi ⟨rfl, hf, x2, rfl⟩
      obtain ⟨m, hm, hmx⟩ := pr_get' hus hi
      have gm := (c4 m (List.mem_of_getElem? hm)).1
      refine ⟨_, rfl, _, rfl, v, x, t, m, rfl, hv1, hmx, st, gm.small (Nat.le_refl _), _, rfl, ite2 (fun h => ?_) (fun h => ?_)⟩
      · refine ⟨_, rfl, qs m (((reachM n n).1.drop (i + 1)).filter fun m => lessM t m) ?_ x H2 bu hmx⟩
        obtain ⟨hin, em⟩ := List.getElem?_eq_some_iff.mp hm
        conv => lhs; rw [← List.take_append_drop i (reachM n n).1]
        rw [List.filter_append, hf, List.nil_append, List.drop_eq_getElem_cons hin, em, List.filter_cons, if_pos h]
      · refine ⟨rfl, ?_, _, rfl⟩
        rw [take_snoc hm, List.filter_append, hf, List.nil_append, List.filter_cons, if_neg h]
        rfl
    · rintro σ H2 ⟨rfl, hf, x2, rfl⟩
      rw [List.take_of_length_le (by omega)] at hf
      exact qn hf H2 bu
end

/-! ### the law -/
section
variable {P : Program} {w : World} {K : PySem.W.Frag} {mg : Str → Option Value} {base : Heap} {Tb : Addr}
theorem sc_law : FnScope ["script", "most", "reached", "moment", "later", "found"] ["script"] (defScope s_law) := ⟨rfl, rfl, rfl, by decide +kernel, rfl, by decide +kernel, by decide +kernel⟩
theorem law_fn (T : Txt K mg) (U : Tab K mg Tb) (Bm : BMod mg base) {f : Addr} {fd : FuncData} (F : Fun K "law" "law" s_law f fd) : FnOk P w K mg base CX0 12 f fd ["script"] (spLaw K Tb) := by
  have GC : OkD P w K mg base CX0 1 "_law_cell_at" ["script", "k"] (spCell K) := ok_cell T
  have GM : OkD P w K mg base CX0 1 "_law_most" ["cell"] spMost := ok_most T
  have GR : OkD P w K mg base CX0 4 "_law_reached" ["most"] (spReach K) := ok_reach T
  have GN : OkD P w K mg base CX0 9 "next_moment" ["moment", "most"] (spNext K Tb) := ok_next T U Bm
  have GT : OkD P w K mg base CX0 2 "_law_moment" ["cell"] (spMoment K) := ok_moment T
  have GF : OkD P w K mg base CX0 1 "_law_fraction" ["found", "due"] (spFrac K) := ok_frac T
  have GL : OkD P w K mg base CX0 1 "_law_less" ["one", "other"] (spL2b K lessM) := ok_lless T
  refine F.ok sc_law (fun vs H Q E h => ?_) (fun cdv A outer s H vs Q E hr h => ?_)
  · obtain ⟨a, ns, rfl, _⟩ := h
    rfl
  · obtain ⟨a, ns, rfl, hS, hlen, hT, q⟩ := h
    have r1 : Room 1 _ := hr.mono (by decide)
    have r2 : Room 2 _ := hr.mono (by decide)
    have r4 : Room 4 _ := hr.mono (by decide)
    have r9 : Room 9 _ := hr.mono (by decide)
    have hu := hr.units
    have B : BlkScope (cxOf CX0 P w K mg base ["script", "most", "reached", "moment", "later", "found"] "law" (defScope s_law) f cdv A outer s H E).nox ["one", "moment"] [none, some 3] { kind := .function, names := [(".0", .local), ("one", .local), ("_law_less", .globalImplicit), ("moment", .free)], isGenerator := false, isCoroutine := false, more := [] } [("moment", s.heap.objs.size + 1)] := by
      refine ⟨rfl, by decide +kernel, by decide +kernel, rfl, fun x c h => ?_, fun x h => ?_, rfl, fun i j x h1 h2 => ?_⟩
      · have h := look_mem h
        simp only [List.mem_cons, Prod.mk.injEq, List.not_mem_nil, or_false] at h
        rcases h with ⟨rfl, rfl⟩
        rfl
      · have e : x = "moment" := by
          rcases h with h | h
          · have h := look_mem (l := ([(".0", .local), ("one", .local), ("_law_less", .globalImplicit), ("moment", .cell)] : List (Str × NameKind))) h
            simpa using h
          · have h := look_mem (l := ([(".0", .local), ("one", .local), ("_law_less", .globalImplicit), ("moment", .cell)] : List (Str × NameKind))) h
            simp at h
        rcases e with rfl
        exact ⟨_, rfl⟩
      · match i, h1, h2 with
        | 1, h1, h2 =>
          cases h1
          cases h2
          exact ⟨rfl, (show some NameKind.cell ≠ some NameKind.local from by decide), .inr (.inl rfl), .inl rfl⟩
    let X : Cx := (cxOf CX0 P w K mg base ["script", "most", "reached", "moment", "later", "found"] "law" (defScope s_law) f cdv A outer s H E).nox
    obtain ⟨tr, hrest, rest⟩ : ∃ tr, PSs X ((defBody s_law).drop 4) tr ∧ ∀ (n : Nat) (l : Addr) (us : List V) (x : V) (t : M) (H2 : Hp), 1 ≤ n → n ≤ 4 → Same H H2 → H2 l = some (.lst us) → Paired (Mo K H2) us (reachM n n).1 → Mo K H2 x t → Small t → Lo t →
        tr { nx := fun _ H' => Q .non H', rt := Q } [some (.ref a), some (.int (n : Nat)), some (.ref l), some x, none, none] H2 := by
      refine ⟨_, (pss_cons (ps_setC (i := 4) sc_law.nd rfl (Or.inl rfl) rfl B (pi_list (pv 2)) (fun C s0 H0 fp => (pg_name (i := 0) (by decide +kernel : List.Nodup (["one", "moment"] : List Str)) rfl (Or.inl rfl))) (fun C s0 H0 fp => (pifs_one (pt_val (pe_callD GL r1 pass0 (pa_cons (pv 1) (pa_cons (pv 0) pa_nil)))))) (fun C s0 H0 fp => (pv 0))) (pss_cons (ps_set (i := 5) sc_law.nd rfl (Or.inl rfl) (pe_callD GN r9 pass0 (pa_cons (pv 3) (pa_cons (pv 1) pa_nil)))) (pss_cons (ps_if (pt_cmpR (op_eqD hu) (pv 4) (pe_lst pa_nil) (nomark _)) (pss_one (ps_ret (pe_cmpR op_isN (pv 5) pe_non (nomark _)))) pss_nil) (pss_one (ps_ret (pe_callD GF r1 pass0 (pa_cons (pv 5) (pa_cons (pe_ix ix_list (pv 4) pe_int (fun _ _ => rfl)) pa_nil)))))))), ?_⟩
      intro n l us x t H2 n1 n4 sm hl2 hus hx st lt
      obtain ⟨c1, c2, c3, c4, c5, c6, c7⟩ := chkF n1 n4
      have hul := pr_len hus
      refine ⟨_, rfl, l, rfl, ⟨us, SqL.of hl2⟩, fun ey hey => ?_⟩
      refine comp_list (K := K) (a := l) (xs := us) (fun j σ' H' => ∃ zs, H' ey = some (.lst zs) ∧ Paired (Mo K H') zs (((reachM n n).1.take j).filter fun m => lessM t m) ∧ Same H2 H' ∧ ∃ y, σ' = [y, some x])
        ⟨[], upd_same, .nil, same_upd hey, _, rfl⟩ (fun j σ' H' _ ⟨_, _, _, sH, _⟩ => sH.seq (SqL.of hl2)) ?_ ?_
      · rintro j y σ' H' hj ⟨zs, hz, hzs, sH, x2, rfl⟩
        obtain ⟨m, hm1, hmx⟩ := pr_get' hus hj
        have hlo : Lo m := Nat.le_trans (c4 m (List.mem_of_getElem? hm1)).2 (by decide)
        have hzl : zs.length ≤ 100 := by
          rw [pr_len hzs]
          exact Nat.le_trans (List.length_filter_le _ _) (by rw [List.length_take]; omega)
        refine ⟨_, rfl, _, rfl, _, _, t, m, rfl, hx.same sH, hmx.same sH, lt, hlo, _, rfl, ite2 (fun h => ?_) (fun h => ?_)⟩
        · have gr := grow_lst (ys := zs ++ [y]) hz
          refine ⟨_, rfl, zs, hz, small1000 (by omega), zs ++ [y], upd_same, ?_, sH.upd hey, _, rfl⟩
          rw [take_snoc hm1, List.filter_append, List.filter_cons, if_pos h]
          exact pr_snoc (pr_mono (fun _ _ z => z.grow gr) hzs) ((hmx.same sH).grow gr)
        · refine ⟨zs, hz, ?_, sH, _, rfl⟩
          rw [take_snoc hm1, List.filter_append, List.filter_cons, if_neg h]
          simpa using hzs
      · rintro σ' H3 ⟨zs, hz3, hzs, s3, x2, rfl⟩
        rw [List.take_of_length_le (by omega)] at hzs
        have hT3 := hT.same (sm.trans s3)
        obtain ⟨tq, hTb, _⟩ := id hT3
        have neT : ey ≠ Tb := ne_of hz3 hTb (by intro y; cases y)
        -- later == []
        have cmp : ∀ (H4 : Hp) (p : Addr), H4 ey = some (.lst zs) → H4 p = none → RcD K (upd H4 p (.lst [])) (EqD K (upd H4 p (.lst [])) 8) (.ref ey) (.ref p) (zs.length == 0) := fun H4 p he hp => by
          refine .inr ⟨ey, p, zs, [], rfl, rfl, SqL.of ((same_upd hp) _ _ he), SqL.of upd_same, fun _ => true, fun j x y h1 h2 => by simp at h2, ?_⟩
          simp
        refine ⟨_, rfl, _, rfl, x, t, n, rfl, hx.same s3, st, n1, n4, hT3, fun he H4 bu => ?_, fun m rest he v' H4 bu hv' => ?_⟩
        · have z0 : zs = [] := by
            rw [he] at hzs; cases hzs; rfl
          refine ⟨_, rfl, Nat.zero_le _, fun p hp => ⟨_, cmp H4 p (bu _ _ neT hz3) hp, _, rfl, ?_⟩⟩
          rw [z0]
          exact iteT ⟨_, rfl, rfl, q _⟩
        · have zl : ∃ z0 zr, zs = z0 :: zr ∧ Mo K H3 z0 m := by
            rw [he] at hzs
            cases hzs with
            | cons r t => exact ⟨_, _, rfl, r⟩
          obtain ⟨z0, zr, rfl, hz0⟩ := zl
          refine ⟨_, rfl, Nat.zero_le _, fun p hp => ⟨_, cmp H4 p (bu _ _ neT hz3) hp, _, rfl, ?_⟩⟩
          have s5 := same_upd (o := .lst []) hp
          refine iteF ⟨_, rfl, _, rfl, ey, _, _, z0, rfl, rfl, SqL.of (s5 _ _ (bu _ _ neT hz3)), atI_nat (j := 0) rfl, v', z0, m, rfl, hv'.same s5, ?_, q _⟩
          obtain ⟨p0, e0, hp0⟩ := hz0
          exact Mo.same s5 ⟨p0, e0, bu.tupT hTb hp0⟩
    refine ⟨_, (pss_cons (ps_set (i := 1) sc_law.nd rfl (Or.inl rfl) (pe_callD GM r1 pass0 (pa_cons (pe_callD GC r1 pass0 (pa_cons (pv 0) (pa_cons pe_int pa_nil))) pa_nil))) (pss_cons (ps_set (i := 2) sc_law.nd rfl (Or.inl rfl) (pe_callD GR r4 pass0 (pa_cons (pv 1) pa_nil))) (pss_cons (ps_set (i := 3) sc_law.nd rfl (Or.inr rfl) (pe_callD GT r2 pass0 (pa_cons (pe_op op_fdiv (pe_callD GC r1 pass0 (pa_cons (pv 0) (pa_cons pe_int pa_nil))) pe_int) pa_nil))) (pss_cons (ps_if (pt_cmpR op_eq (pe_op op_mod (pe_callD GC r1 pass0 (pa_cons (pv 0) (pa_cons pe_int pa_nil))) pe_int) pe_int (nomark _)) (pss_one (ps_set (i := 3) sc_law.nd rfl (Or.inr rfl) (pe_ix ix_list (pv 2) (pe_op op_mod (pe_op op_fdiv (pe_callD GC r1 pass0 (pa_cons (pv 0) (pa_cons pe_int pa_nil))) pe_int) (pe_callB call_len_seq rfl T.b_len PySem.boot_len (pa_cons (pv 2) pa_nil))) (fun _ _ => rfl)))) pss_nil) hrest)))), ?_⟩
    obtain ⟨n1, n4⟩ := mostN_le (ns.getD 0 0)
    refine ⟨_, rfl, a, ns, 0, rfl, hS, _, rfl, ?_⟩
    generalize mostN (ns.getD 0 0) = n at n1 n4
    obtain ⟨c1, c2, c3, c4, c5, c6, c7⟩ := chkF n1 n4
    refine ⟨_, rfl, n, rfl, n1, n4, fun l H1 us s1 hl0 hl1 hus => ?_⟩
    have hul := pr_len hus
    refine ⟨_, rfl, a, ns, 1, rfl, s1.seq hS, _, _, rfl, rfl, ⟨by decide, by decide⟩, _, rfl, fun x H2 s2 hx => ?_⟩
    have hpos : 0 < (reachM n n).1.length := by
      cases e : (reachM n n).1 with
      | nil =>
        cases e2 : (fpM sortP n) with
        | nil => rw [e2] at c5; simp at c5
        | cons y ys =>
          have := (c1 y.1).mp (by rw [e2]; simp)
          rw [e] at this; cases this
      | cons y ys => simp
    have s12 := s1.trans s2
    refine ⟨_, rfl, a, ns, 1, rfl, s12.seq hS, _, _, rfl, rfl, (by show (0 : Int) < 2; decide), rfl, _, rfl, ite2 (fun h => ?_) (fun h => ?_)⟩
    · have hl2 := s2 _ _ hl1
      have hk0 : 0 ≤ ns.getD 1 0 / 2 % (us.length : Int) := Int.emod_nonneg _ (by omega)
      have hk1 : ns.getD 1 0 / 2 % (us.length : Int) < us.length := Int.emod_lt_of_pos _ (by omega)
      obtain ⟨k, hk⟩ : ∃ k : Nat, ns.getD 1 0 / 2 % (us.length : Int) = k := ⟨(ns.getD 1 0 / 2 % (us.length : Int)).toNat, by omega⟩
      have hkl : k < us.length := by omega
      have hm : (reachM n n).1[k]? = some (reachM n n).1[k] := by simp [← hul, hkl]
      generalize (reachM n n).1[k] = m at hm
      obtain ⟨v, hv, hmv⟩ := pr_get hus hm
      refine ⟨_, rfl, _, rfl, a, ns, 1, rfl, s12.seq hS, _, _, rfl, rfl, ⟨by decide, by decide⟩, _, rfl, l, us, rfl, .inl (SqL.of hl2), _, _, rfl, rfl, (by show (0 : Int) < (us.length : Int); omega), l, us, _, v, rfl, rfl, SqL.of hl2, (by rw [hk]; exact atI_nat hv), ?_⟩
      have gm := c4 m (List.mem_of_getElem? hm)
      exact rest n l us v m H2 n1 n4 s12 hl2 (pr_mono (fun _ _ z => z.same s2) hus) (hmv.same s2) (gm.1.small (Nat.le_refl _)) (Nat.le_trans gm.2 (by decide))
    · obtain ⟨f1, f2⟩ := mom_fit (ns.getD 1 0 / 2)
      exact rest n l us x _ H2 n1 n4 s12 (s2 _ _ hl1) (pr_mono (fun _ _ z => z.same s2) hus) hx f1 f2
end

/-! ### the end -/
theorem txt_mk {K : PySem.W.Frag} {h : Heap} {mg : Str → Option Value} (X : K.In h) (G : h.Ns mainGlobals mg) {f_mean_and_half : Addr} {od_mean_and_half an_mean_and_half : Option Addr} {sl_mean_and_half : Array (Option Value)} {oc_mean_and_half kV_mean_and_half dc_mean_and_half pm_mean_and_half cd_mean_and_half ct_mean_and_half : Value} {f_hour_behind : Addr} {od_hour_behind an_hour_behind : Option Addr} {sl_hour_behind : Array (Option Value)} {oc_hour_behind kV_hour_behind dc_hour_behind pm_hour_behind cd_hour_behind ct_hour_behind : Value} {f_earlier : Addr} {od_earlier an_earlier : Option Addr} {sl_earlier : Array (Option Value)} {oc_earlier kV_earlier dc_earlier pm_earlier cd_earlier ct_earlier : Value} {f_between : Addr} {od_between an_between : Option Addr} {sl_between : Array (Option Value)} {oc_between kV_between dc_between pm_between cd_between ct_between : Value} {f_in_order : Addr} {od_in_order an_in_order : Option Addr} {sl_in_order : Array (Option Value)} {oc_in_order kV_in_order dc_in_order pm_in_order cd_in_order ct_in_order : Value} {f_top_over : Addr} {od_top_over an_top_over : Option Addr} {sl_top_over : Array (Option Value)} {oc_top_over kV_top_over dc_top_over pm_top_over cd_top_over ct_top_over : Value} {f_lowest : Addr} {od_lowest an_lowest : Option Addr} {sl_lowest : Array (Option Value)} {oc_lowest kV_lowest dc_lowest pm_lowest cd_lowest ct_lowest : Value} {f_twos_in : Addr} {od_twos_in an_twos_in : Option Addr} {sl_twos_in : Array (Option Value)} {oc_twos_in kV_twos_in dc_twos_in pm_twos_in cd_twos_in ct_twos_in : Value} {f_out_of : Addr} {od_out_of an_out_of : Option Addr} {sl_out_of : Array (Option Value)} {oc_out_of kV_out_of dc_out_of pm_out_of cd_out_of ct_out_of : Value} {f_lighting : Addr} {od_lighting an_lighting : Option Addr} {sl_lighting : Array (Option Value)} {oc_lighting kV_lighting dc_lighting pm_lighting cd_lighting ct_lighting : Value} {f_measured : Addr} {od_measured an_measured : Option Addr} {sl_measured : Array (Option Value)} {oc_measured kV_measured dc_measured pm_measured cd_measured ct_measured : Value} {f_next_moment : Addr} {od_next_moment an_next_moment : Option Addr} {sl_next_moment : Array (Option Value)} {oc_next_moment kV_next_moment dc_next_moment pm_next_moment cd_next_moment ct_next_moment : Value} {f_first_plans : Addr} {od_first_plans an_first_plans : Option Addr} {sl_first_plans : Array (Option Value)} {oc_first_plans kV_first_plans dc_first_plans pm_first_plans cd_first_plans ct_first_plans : Value} {f_longer_by_one : Addr} {od_longer_by_one an_longer_by_one : Option Addr} {sl_longer_by_one : Array (Option Value)} {oc_longer_by_one kV_longer_by_one dc_longer_by_one pm_longer_by_one cd_longer_by_one ct_longer_by_one : Value} {f_out_or_none : Addr} {od_out_or_none an_out_or_none : Option Addr} {sl_out_or_none : Array (Option Value)} {oc_out_or_none kV_out_or_none dc_out_or_none pm_out_or_none cd_out_or_none ct_out_or_none : Value} {f_ropes_in_order : Addr} {od_ropes_in_order an_ropes_in_order : Option Addr} {sl_ropes_in_order : Array (Option Value)} {oc_ropes_in_order kV_ropes_in_order dc_ropes_in_order pm_ropes_in_order cd_ropes_in_order ct_ropes_in_order : Value} {f_law_cell_at : Addr} {od_law_cell_at an_law_cell_at : Option Addr} {sl_law_cell_at : Array (Option Value)} {oc_law_cell_at kV_law_cell_at dc_law_cell_at pm_law_cell_at cd_law_cell_at ct_law_cell_at : Value} {f_law_low : Addr} {od_law_low an_law_low : Option Addr} {sl_law_low : Array (Option Value)} {oc_law_low kV_law_low dc_law_low pm_law_low cd_law_low ct_law_low : Value} {f_law_sum : Addr} {od_law_sum an_law_sum : Option Addr} {sl_law_sum : Array (Option Value)} {oc_law_sum kV_law_sum dc_law_sum pm_law_sum cd_law_sum ct_law_sum : Value} {f_law_less : Addr} {od_law_less an_law_less : Option Addr} {sl_law_less : Array (Option Value)} {oc_law_less kV_law_less dc_law_less pm_law_less cd_law_less ct_law_less : Value} {f_law_gap : Addr} {od_law_gap an_law_gap : Option Addr} {sl_law_gap : Array (Option Value)} {oc_law_gap kV_law_gap dc_law_gap pm_law_gap cd_law_gap ct_law_gap : Value} {f_law_fraction : Addr} {od_law_fraction an_law_fraction : Option Addr} {sl_law_fraction : Array (Option Value)} {oc_law_fraction kV_law_fraction dc_law_fraction pm_law_fraction cd_law_fraction ct_law_fraction : Value} {f_law_moment : Addr} {od_law_moment an_law_moment : Option Addr} {sl_law_moment : Array (Option Value)} {oc_law_moment kV_law_moment dc_law_moment pm_law_moment cd_law_moment ct_law_moment : Value} {f_law_new_moments : Addr} {od_law_new_moments an_law_new_moments : Option Addr} {sl_law_new_moments : Array (Option Value)} {oc_law_new_moments kV_law_new_moments dc_law_new_moments pm_law_new_moments cd_law_new_moments ct_law_new_moments : Value} {f_law_put_in : Addr} {od_law_put_in an_law_put_in : Option Addr} {sl_law_put_in : Array (Option Value)} {oc_law_put_in kV_law_put_in dc_law_put_in pm_law_put_in cd_law_put_in ct_law_put_in : Value} {f_law_reached : Addr} {od_law_reached an_law_reached : Option Addr} {sl_law_reached : Array (Option Value)} {oc_law_reached kV_law_reached dc_law_reached pm_law_reached cd_law_reached ct_law_reached : Value} {f_law_most : Addr} {od_law_most an_law_most : Option Addr} {sl_law_most : Array (Option Value)} {oc_law_most kV_law_most dc_law_most pm_law_most cd_law_most ct_law_most : Value} {f_law : Addr} {od_law an_law : Option Addr} {sl_law : Array (Option Value)} {oc_law kV_law dc_law pm_law cd_law ct_law : Value} {q_START : Addr} {qd_START : Option Addr} {qn_START : Nat} {qs_START : Array (Option Value)} {qt0_START : Tok} {qt1_START : Tok} {qt_BEGINNING : Tok} {q_HOUR : Addr} {qd_HOUR : Option Addr} {qn_HOUR : Nat} {qs_HOUR : Array (Option Value)} {qt0_HOUR : Tok} {qt1_HOUR : Tok} {cl_RopeError cn_RopeError : Addr} {nm_RopeError qn_RopeError : Str} {bs_RopeError sub_RopeError : List Value} {hd_RopeError ab_RopeError : Bool} {sn_RopeError : List Str} {col_RopeError : Option Bool} {dd_RopeError : Option Addr} {k0_RopeError k1_RopeError k2_RopeError k3_RopeError k5_RopeError : Option Value} {cl_Late cn_Late : Addr} {nm_Late qn_Late : Str} {bs_Late sub_Late : List Value} {hd_Late ab_Late : Bool} {sn_Late : List Str} {col_Late : Option Bool} {dd_Late : Option Addr} {k0_Late k1_Late k2_Late k3_Late k5_Late : Option Value} {f_Late_init : Addr} {od_Late_init an_Late_init : Option Addr} {sl_Late_init : Array (Option Value)} {oc_Late_init kV_Late_init dc_Late_init pm_Late_init cd_Late_init ct_Late_init : Value}
    (a_mean_and_half : PySem.W.nsIn K mainGlobals "mean_and_half" = some (some (.ref f_mean_and_half)))
    (l_mean_and_half : K.lookup f_mean_and_half = some ⟨oc_mean_and_half, od_mean_and_half, .func (PySem.W.fnOf "mean_and_half" "mean_and_half" (defArgs s_mean_and_half) (defBody s_mean_and_half) (defScope s_mean_and_half) .none kV_mean_and_half dc_mean_and_half pm_mean_and_half an_mean_and_half cd_mean_and_half ct_mean_and_half), sl_mean_and_half⟩)
    (c_mean_and_half : PySem.W.codeIn K cd_mean_and_half "mean_and_half" = true)
    (k_mean_and_half : PySem.W.keepIn K (.ref f_mean_and_half) = true)
    (a_hour_behind : PySem.W.nsIn K mainGlobals "hour_behind" = some (some (.ref f_hour_behind)))
    (l_hour_behind : K.lookup f_hour_behind = some ⟨oc_hour_behind, od_hour_behind, .func (PySem.W.fnOf "hour_behind" "hour_behind" (defArgs s_hour_behind) (defBody s_hour_behind) (defScope s_hour_behind) .none kV_hour_behind dc_hour_behind pm_hour_behind an_hour_behind cd_hour_behind ct_hour_behind), sl_hour_behind⟩)
    (c_hour_behind : PySem.W.codeIn K cd_hour_behind "hour_behind" = true)
    (k_hour_behind : PySem.W.keepIn K (.ref f_hour_behind) = true)
    (a_earlier : PySem.W.nsIn K mainGlobals "earlier" = some (some (.ref f_earlier)))
    (l_earlier : K.lookup f_earlier = some ⟨oc_earlier, od_earlier, .func (PySem.W.fnOf "earlier" "earlier" (defArgs s_earlier) (defBody s_earlier) (defScope s_earlier) .none kV_earlier dc_earlier pm_earlier an_earlier cd_earlier ct_earlier), sl_earlier⟩)
    (c_earlier : PySem.W.codeIn K cd_earlier "earlier" = true)
    (k_earlier : PySem.W.keepIn K (.ref f_earlier) = true)
    (a_between : PySem.W.nsIn K mainGlobals "between" = some (some (.ref f_between)))
    (l_between : K.lookup f_between = some ⟨oc_between, od_between, .func (PySem.W.fnOf "between" "between" (defArgs s_between) (defBody s_between) (defScope s_between) .none kV_between dc_between pm_between an_between cd_between ct_between), sl_between⟩)
    (c_between : PySem.W.codeIn K cd_between "between" = true)
    (k_between : PySem.W.keepIn K (.ref f_between) = true)
    (a_in_order : PySem.W.nsIn K mainGlobals "in_order" = some (some (.ref f_in_order)))
    (l_in_order : K.lookup f_in_order = some ⟨oc_in_order, od_in_order, .func (PySem.W.fnOf "in_order" "in_order" (defArgs s_in_order) (defBody s_in_order) (defScope s_in_order) .none kV_in_order dc_in_order pm_in_order an_in_order cd_in_order ct_in_order), sl_in_order⟩)
    (c_in_order : PySem.W.codeIn K cd_in_order "in_order" = true)
    (k_in_order : PySem.W.keepIn K (.ref f_in_order) = true)
    (a_top_over : PySem.W.nsIn K mainGlobals "top_over" = some (some (.ref f_top_over)))
    (l_top_over : K.lookup f_top_over = some ⟨oc_top_over, od_top_over, .func (PySem.W.fnOf "top_over" "top_over" (defArgs s_top_over) (defBody s_top_over) (defScope s_top_over) .none kV_top_over dc_top_over pm_top_over an_top_over cd_top_over ct_top_over), sl_top_over⟩)
    (c_top_over : PySem.W.codeIn K cd_top_over "top_over" = true)
    (k_top_over : PySem.W.keepIn K (.ref f_top_over) = true)
    (a_lowest : PySem.W.nsIn K mainGlobals "lowest" = some (some (.ref f_lowest)))
    (l_lowest : K.lookup f_lowest = some ⟨oc_lowest, od_lowest, .func (PySem.W.fnOf "lowest" "lowest" (defArgs s_lowest) (defBody s_lowest) (defScope s_lowest) .none kV_lowest dc_lowest pm_lowest an_lowest cd_lowest ct_lowest), sl_lowest⟩)
    (c_lowest : PySem.W.codeIn K cd_lowest "lowest" = true)
    (k_lowest : PySem.W.keepIn K (.ref f_lowest) = true)
    (a_twos_in : PySem.W.nsIn K mainGlobals "twos_in" = some (some (.ref f_twos_in)))
    (l_twos_in : K.lookup f_twos_in = some ⟨oc_twos_in, od_twos_in, .func (PySem.W.fnOf "twos_in" "twos_in" (defArgs s_twos_in) (defBody s_twos_in) (defScope s_twos_in) .none kV_twos_in dc_twos_in pm_twos_in an_twos_in cd_twos_in ct_twos_in), sl_twos_in⟩)
    (c_twos_in : PySem.W.codeIn K cd_twos_in "twos_in" = true)
    (k_twos_in : PySem.W.keepIn K (.ref f_twos_in) = true)
    (a_out_of : PySem.W.nsIn K mainGlobals "out_of" = some (some (.ref f_out_of)))
    (l_out_of : K.lookup f_out_of = some ⟨oc_out_of, od_out_of, .func (PySem.W.fnOf "out_of" "out_of" (defArgs s_out_of) (defBody s_out_of) (defScope s_out_of) .none kV_out_of dc_out_of pm_out_of an_out_of cd_out_of ct_out_of), sl_out_of⟩)
    (c_out_of : PySem.W.codeIn K cd_out_of "out_of" = true)
    (k_out_of : PySem.W.keepIn K (.ref f_out_of) = true)
    (a_lighting : PySem.W.nsIn K mainGlobals "lighting" = some (some (.ref f_lighting)))
    (l_lighting : K.lookup f_lighting = some ⟨oc_lighting, od_lighting, .func (PySem.W.fnOf "lighting" "lighting" (defArgs s_lighting) (defBody s_lighting) (defScope s_lighting) .none kV_lighting dc_lighting pm_lighting an_lighting cd_lighting ct_lighting), sl_lighting⟩)
    (c_lighting : PySem.W.codeIn K cd_lighting "lighting" = true)
    (k_lighting : PySem.W.keepIn K (.ref f_lighting) = true)
    (a_measured : PySem.W.nsIn K mainGlobals "measured" = some (some (.ref f_measured)))
    (l_measured : K.lookup f_measured = some ⟨oc_measured, od_measured, .func (PySem.W.fnOf "measured" "measured" (defArgs s_measured) (defBody s_measured) (defScope s_measured) .none kV_measured dc_measured pm_measured an_measured cd_measured ct_measured), sl_measured⟩)
    (c_measured : PySem.W.codeIn K cd_measured "measured" = true)
    (k_measured : PySem.W.keepIn K (.ref f_measured) = true)
    (a_next_moment : PySem.W.nsIn K mainGlobals "next_moment" = some (some (.ref f_next_moment)))
    (l_next_moment : K.lookup f_next_moment = some ⟨oc_next_moment, od_next_moment, .func (PySem.W.fnOf "next_moment" "next_moment" (defArgs s_next_moment) (defBody s_next_moment) (defScope s_next_moment) .none kV_next_moment dc_next_moment pm_next_moment an_next_moment cd_next_moment ct_next_moment), sl_next_moment⟩)
    (c_next_moment : PySem.W.codeIn K cd_next_moment "next_moment" = true)
    (k_next_moment : PySem.W.keepIn K (.ref f_next_moment) = true)
    (a_first_plans : PySem.W.nsIn K mainGlobals "first_plans" = some (some (.ref f_first_plans)))
    (l_first_plans : K.lookup f_first_plans = some ⟨oc_first_plans, od_first_plans, .func (PySem.W.fnOf "first_plans" "first_plans" (defArgs s_first_plans) (defBody s_first_plans) (defScope s_first_plans) .none kV_first_plans dc_first_plans pm_first_plans an_first_plans cd_first_plans ct_first_plans), sl_first_plans⟩)
    (c_first_plans : PySem.W.codeIn K cd_first_plans "first_plans" = true)
    (k_first_plans : PySem.W.keepIn K (.ref f_first_plans) = true)
    (a_longer_by_one : PySem.W.nsIn K mainGlobals "longer_by_one" = some (some (.ref f_longer_by_one)))
    (l_longer_by_one : K.lookup f_longer_by_one = some ⟨oc_longer_by_one, od_longer_by_one, .func (PySem.W.fnOf "longer_by_one" "longer_by_one" (defArgs s_longer_by_one) (defBody s_longer_by_one) (defScope s_longer_by_one) .none kV_longer_by_one dc_longer_by_one pm_longer_by_one an_longer_by_one cd_longer_by_one ct_longer_by_one), sl_longer_by_one⟩)
    (c_longer_by_one : PySem.W.codeIn K cd_longer_by_one "longer_by_one" = true)
    (k_longer_by_one : PySem.W.keepIn K (.ref f_longer_by_one) = true)
    (a_out_or_none : PySem.W.nsIn K mainGlobals "out_or_none" = some (some (.ref f_out_or_none)))
    (l_out_or_none : K.lookup f_out_or_none = some ⟨oc_out_or_none, od_out_or_none, .func (PySem.W.fnOf "out_or_none" "out_or_none" (defArgs s_out_or_none) (defBody s_out_or_none) (defScope s_out_or_none) .none kV_out_or_none dc_out_or_none pm_out_or_none an_out_or_none cd_out_or_none ct_out_or_none), sl_out_or_none⟩)
    (c_out_or_none : PySem.W.codeIn K cd_out_or_none "out_or_none" = true)
    (k_out_or_none : PySem.W.keepIn K (.ref f_out_or_none) = true)
    (a_ropes_in_order : PySem.W.nsIn K mainGlobals "ropes_in_order" = some (some (.ref f_ropes_in_order)))
    (l_ropes_in_order : K.lookup f_ropes_in_order = some ⟨oc_ropes_in_order, od_ropes_in_order, .func (PySem.W.fnOf "ropes_in_order" "ropes_in_order" (defArgs s_ropes_in_order) (defBody s_ropes_in_order) (defScope s_ropes_in_order) .none kV_ropes_in_order dc_ropes_in_order pm_ropes_in_order an_ropes_in_order cd_ropes_in_order ct_ropes_in_order), sl_ropes_in_order⟩)
    (c_ropes_in_order : PySem.W.codeIn K cd_ropes_in_order "ropes_in_order" = true)
    (k_ropes_in_order : PySem.W.keepIn K (.ref f_ropes_in_order) = true)
    (a_law_cell_at : PySem.W.nsIn K mainGlobals "_law_cell_at" = some (some (.ref f_law_cell_at)))
    (l_law_cell_at : K.lookup f_law_cell_at = some ⟨oc_law_cell_at, od_law_cell_at, .func (PySem.W.fnOf "_law_cell_at" "_law_cell_at" (defArgs s_law_cell_at) (defBody s_law_cell_at) (defScope s_law_cell_at) .none kV_law_cell_at dc_law_cell_at pm_law_cell_at an_law_cell_at cd_law_cell_at ct_law_cell_at), sl_law_cell_at⟩)
    (c_law_cell_at : PySem.W.codeIn K cd_law_cell_at "_law_cell_at" = true)
    (k_law_cell_at : PySem.W.keepIn K (.ref f_law_cell_at) = true)
    (a_law_low : PySem.W.nsIn K mainGlobals "_law_low" = some (some (.ref f_law_low)))
    (l_law_low : K.lookup f_law_low = some ⟨oc_law_low, od_law_low, .func (PySem.W.fnOf "_law_low" "_law_low" (defArgs s_law_low) (defBody s_law_low) (defScope s_law_low) .none kV_law_low dc_law_low pm_law_low an_law_low cd_law_low ct_law_low), sl_law_low⟩)
    (c_law_low : PySem.W.codeIn K cd_law_low "_law_low" = true)
    (k_law_low : PySem.W.keepIn K (.ref f_law_low) = true)
    (a_law_sum : PySem.W.nsIn K mainGlobals "_law_sum" = some (some (.ref f_law_sum)))
    (l_law_sum : K.lookup f_law_sum = some ⟨oc_law_sum, od_law_sum, .func (PySem.W.fnOf "_law_sum" "_law_sum" (defArgs s_law_sum) (defBody s_law_sum) (defScope s_law_sum) .none kV_law_sum dc_law_sum pm_law_sum an_law_sum cd_law_sum ct_law_sum), sl_law_sum⟩)
    (c_law_sum : PySem.W.codeIn K cd_law_sum "_law_sum" = true)
    (k_law_sum : PySem.W.keepIn K (.ref f_law_sum) = true)
    (a_law_less : PySem.W.nsIn K mainGlobals "_law_less" = some (some (.ref f_law_less)))
    (l_law_less : K.lookup f_law_less = some ⟨oc_law_less, od_law_less, .func (PySem.W.fnOf "_law_less" "_law_less" (defArgs s_law_less) (defBody s_law_less) (defScope s_law_less) .none kV_law_less dc_law_less pm_law_less an_law_less cd_law_less ct_law_less), sl_law_less⟩)
    (c_law_less : PySem.W.codeIn K cd_law_less "_law_less" = true)
    (k_law_less : PySem.W.keepIn K (.ref f_law_less) = true)
    (a_law_gap : PySem.W.nsIn K mainGlobals "_law_gap" = some (some (.ref f_law_gap)))
    (l_law_gap : K.lookup f_law_gap = some ⟨oc_law_gap, od_law_gap, .func (PySem.W.fnOf "_law_gap" "_law_gap" (defArgs s_law_gap) (defBody s_law_gap) (defScope s_law_gap) .none kV_law_gap dc_law_gap pm_law_gap an_law_gap cd_law_gap ct_law_gap), sl_law_gap⟩)
    (c_law_gap : PySem.W.codeIn K cd_law_gap "_law_gap" = true)
    (k_law_gap : PySem.W.keepIn K (.ref f_law_gap) = true)
    (a_law_fraction : PySem.W.nsIn K mainGlobals "_law_fraction" = some (some (.ref f_law_fraction)))
    (l_law_fraction : K.lookup f_law_fraction = some ⟨oc_law_fraction, od_law_fraction, .func (PySem.W.fnOf "_law_fraction" "_law_fraction" (defArgs s_law_fraction) (defBody s_law_fraction) (defScope s_law_fraction) .none kV_law_fraction dc_law_fraction pm_law_fraction an_law_fraction cd_law_fraction ct_law_fraction), sl_law_fraction⟩)
    (c_law_fraction : PySem.W.codeIn K cd_law_fraction "_law_fraction" = true)
    (k_law_fraction : PySem.W.keepIn K (.ref f_law_fraction) = true)
    (a_law_moment : PySem.W.nsIn K mainGlobals "_law_moment" = some (some (.ref f_law_moment)))
    (l_law_moment : K.lookup f_law_moment = some ⟨oc_law_moment, od_law_moment, .func (PySem.W.fnOf "_law_moment" "_law_moment" (defArgs s_law_moment) (defBody s_law_moment) (defScope s_law_moment) .none kV_law_moment dc_law_moment pm_law_moment an_law_moment cd_law_moment ct_law_moment), sl_law_moment⟩)
    (c_law_moment : PySem.W.codeIn K cd_law_moment "_law_moment" = true)
    (k_law_moment : PySem.W.keepIn K (.ref f_law_moment) = true)
    (a_law_new_moments : PySem.W.nsIn K mainGlobals "_law_new_moments" = some (some (.ref f_law_new_moments)))
    (l_law_new_moments : K.lookup f_law_new_moments = some ⟨oc_law_new_moments, od_law_new_moments, .func (PySem.W.fnOf "_law_new_moments" "_law_new_moments" (defArgs s_law_new_moments) (defBody s_law_new_moments) (defScope s_law_new_moments) .none kV_law_new_moments dc_law_new_moments pm_law_new_moments an_law_new_moments cd_law_new_moments ct_law_new_moments), sl_law_new_moments⟩)
    (c_law_new_moments : PySem.W.codeIn K cd_law_new_moments "_law_new_moments" = true)
    (k_law_new_moments : PySem.W.keepIn K (.ref f_law_new_moments) = true)
    (a_law_put_in : PySem.W.nsIn K mainGlobals "_law_put_in" = some (some (.ref f_law_put_in)))
    (l_law_put_in : K.lookup f_law_put_in = some ⟨oc_law_put_in, od_law_put_in, .func (PySem.W.fnOf "_law_put_in" "_law_put_in" (defArgs s_law_put_in) (defBody s_law_put_in) (defScope s_law_put_in) .none kV_law_put_in dc_law_put_in pm_law_put_in an_law_put_in cd_law_put_in ct_law_put_in), sl_law_put_in⟩)
    (c_law_put_in : PySem.W.codeIn K cd_law_put_in "_law_put_in" = true)
    (k_law_put_in : PySem.W.keepIn K (.ref f_law_put_in) = true)
    (a_law_reached : PySem.W.nsIn K mainGlobals "_law_reached" = some (some (.ref f_law_reached)))
    (l_law_reached : K.lookup f_law_reached = some ⟨oc_law_reached, od_law_reached, .func (PySem.W.fnOf "_law_reached" "_law_reached" (defArgs s_law_reached) (defBody s_law_reached) (defScope s_law_reached) .none kV_law_reached dc_law_reached pm_law_reached an_law_reached cd_law_reached ct_law_reached), sl_law_reached⟩)
    (c_law_reached : PySem.W.codeIn K cd_law_reached "_law_reached" = true)
    (k_law_reached : PySem.W.keepIn K (.ref f_law_reached) = true)
    (a_law_most : PySem.W.nsIn K mainGlobals "_law_most" = some (some (.ref f_law_most)))
    (l_law_most : K.lookup f_law_most = some ⟨oc_law_most, od_law_most, .func (PySem.W.fnOf "_law_most" "_law_most" (defArgs s_law_most) (defBody s_law_most) (defScope s_law_most) .none kV_law_most dc_law_most pm_law_most an_law_most cd_law_most ct_law_most), sl_law_most⟩)
    (c_law_most : PySem.W.codeIn K cd_law_most "_law_most" = true)
    (k_law_most : PySem.W.keepIn K (.ref f_law_most) = true)
    (a_law : PySem.W.nsIn K mainGlobals "law" = some (some (.ref f_law)))
    (l_law : K.lookup f_law = some ⟨oc_law, od_law, .func (PySem.W.fnOf "law" "law" (defArgs s_law) (defBody s_law) (defScope s_law) .none kV_law dc_law pm_law an_law cd_law ct_law), sl_law⟩)
    (c_law : PySem.W.codeIn K cd_law "law" = true)
    (k_law : PySem.W.keepIn K (.ref f_law) = true)
    (a_START : PySem.W.nsIn K mainGlobals "START" = some (some (.ref q_START)))
    (l_START : K.lookup q_START = some ⟨.type "tuple", qd_START, .seq #[.int (0) qt0_START, .int (1) qt1_START] qn_START, qs_START⟩)
    (a_BEGINNING : PySem.W.nsIn K mainGlobals "BEGINNING" = some (some (.int (-1) qt_BEGINNING)))
    (a_HOUR : PySem.W.nsIn K mainGlobals "HOUR" = some (some (.ref q_HOUR)))
    (l_HOUR : K.lookup q_HOUR = some ⟨.type "tuple", qd_HOUR, .seq #[.int (1) qt0_HOUR, .int (1) qt1_HOUR] qn_HOUR, qs_HOUR⟩)
    (a_RopeError : PySem.W.nsIn K mainGlobals "RopeError" = some (some (.ref cl_RopeError)))
    (l_RopeError : K.lookup cl_RopeError = some (excClassObj nm_RopeError qn_RopeError cl_RopeError cn_RopeError bs_RopeError vMro hd_RopeError sn_RopeError sub_RopeError ab_RopeError col_RopeError dd_RopeError k0_RopeError k1_RopeError k2_RopeError k3_RopeError k5_RopeError "ValueError.__new__"))
    (a_Late : PySem.W.nsIn K mainGlobals "Late" = some (some (.ref cl_Late)))
    (l_Late : K.lookup cl_Late = some (excClassObj nm_Late qn_Late cl_Late cn_Late bs_Late (.ref cl_RopeError :: vMro) hd_Late sn_Late sub_Late ab_Late col_Late dd_Late k0_Late k1_Late k2_Late k3_Late k5_Late "ValueError.__new__"))
    (xg : PySem.W.specialIn K (.ref cl_RopeError) "__getattribute__" = some (some (.builtin "type.__getattribute__")))
    (xr : PySem.W.readsIn K cl_RopeError (.type "type") = true)
    (xa : PySem.W.findCls K (.ref cl_RopeError) (.type "type") "__init__" = some (.val (.builtin "ValueError.__init__")))
    (in_Late : PySem.W.findIn K (.ref cl_Late) "__init__" = some (some (.ref f_Late_init)))
    (fn_Late : PySem.W.isFn K (.ref f_Late_init) = true)
    (kp_Late : PySem.W.keepIn K (.ref cl_Late) = true)
    (sa_Late : PySem.W.findIn K (.ref cl_Late) "__setattr__" = some (some (.builtin "object.__setattr__")))
    (no_Late : PySem.W.takerIn K cl_Late "rope" = some none)
    (ga_Late : PySem.W.findIn K (.ref cl_Late) "__getattribute__" = some (some (.builtin "BaseException.__getattribute__")))
    (hk_Late : PySem.W.findIn K (.ref cl_Late) "__getattr__" = some none)
    (be_Late : PySem.W.mroIn K cl_Late (.type "BaseException") = some true)
    (ob_Late : PySem.W.mroIn K cl_Late (.type "object") = some true)
    (ck_Late : PySem.W.findIn K (.ref cl_Late) "__class__" = some (some (.builtin "object.__class__")))
    (gk_Late : PySem.W.specialIn K (.builtin "object.__class__") "__get__" = some (some (.builtin "getset_descriptor.__get__")))
    (tk_Late : PySem.W.takesIn K (.builtin "object.__class__") = some true)
    (hd_Late_ : PySem.W.hasDictIn K cl_Late = true)
    (nr_Late : PySem.W.findIn K (.ref cl_Late) "rope" = some none)
    (l_Late_init : K.lookup f_Late_init = some ⟨oc_Late_init, od_Late_init, .func (PySem.W.fnOf "__init__" "Late.__init__" (defArgs s_Late_init__) (defBody s_Late_init__) (defScope s_Late_init__) .none kV_Late_init dc_Late_init pm_Late_init an_Late_init cd_Late_init ct_Late_init), sl_Late_init⟩)
    (c_Late_init : PySem.W.codeIn K cd_Late_init "Late.__init__" = true)
    (k_Late_init : PySem.W.keepIn K (.ref f_Late_init) = true)
    (z_ValueError : PySem.W.nsIn K mainGlobals "ValueError" = some none)
    (z_abs : PySem.W.nsIn K mainGlobals "abs" = some none)
    (z_bool : PySem.W.nsIn K mainGlobals "bool" = some none)
    (z_int : PySem.W.nsIn K mainGlobals "int" = some none)
    (z_isinstance : PySem.W.nsIn K mainGlobals "isinstance" = some none)
    (z_len : PySem.W.nsIn K mainGlobals "len" = some none)
    (z_list : PySem.W.nsIn K mainGlobals "list" = some none)
    (z_max : PySem.W.nsIn K mainGlobals "max" = some none)
    (z_min : PySem.W.nsIn K mainGlobals "min" = some none)
    (z_range : PySem.W.nsIn K mainGlobals "range" = some none)
    (z_sorted : PySem.W.nsIn K mainGlobals "sorted" = some none)
    (z_tuple : PySem.W.nsIn K mainGlobals "tuple" = some none) : Txt K mg :=
  ⟨⟨_, _, PySem.W.mg_of X G a_mean_and_half, fun_mk (st := s_mean_and_half) l_mean_and_half c_mean_and_half k_mean_and_half, (fun_mk (st := s_mean_and_half) l_mean_and_half c_mean_and_half k_mean_and_half).binds fun _ _ _ _ _ _ us hl => match us, hl with | [_, _], _ => rfl⟩,
   ⟨_, _, PySem.W.mg_of X G a_hour_behind, fun_mk (st := s_hour_behind) l_hour_behind c_hour_behind k_hour_behind, (fun_mk (st := s_hour_behind) l_hour_behind c_hour_behind k_hour_behind).binds fun _ _ _ _ _ _ us hl => match us, hl with | [_], _ => rfl⟩,
   ⟨_, _, PySem.W.mg_of X G a_earlier, fun_mk (st := s_earlier) l_earlier c_earlier k_earlier, (fun_mk (st := s_earlier) l_earlier c_earlier k_earlier).binds fun _ _ _ _ _ _ us hl => match us, hl with | [_, _], _ => rfl⟩,
   ⟨_, _, PySem.W.mg_of X G a_between, fun_mk (st := s_between) l_between c_between k_between, (fun_mk (st := s_between) l_between c_between k_between).binds fun _ _ _ _ _ _ us hl => match us, hl with | [_, _], _ => rfl⟩,
   ⟨_, _, PySem.W.mg_of X G a_in_order, fun_mk (st := s_in_order) l_in_order c_in_order k_in_order, (fun_mk (st := s_in_order) l_in_order c_in_order k_in_order).binds fun _ _ _ _ _ _ us hl => match us, hl with | [_], _ => rfl⟩,
   ⟨_, _, PySem.W.mg_of X G a_top_over, fun_mk (st := s_top_over) l_top_over c_top_over k_top_over, (fun_mk (st := s_top_over) l_top_over c_top_over k_top_over).binds fun _ _ _ _ _ _ us hl => match us, hl with | [_, _], _ => rfl⟩,
   ⟨_, _, PySem.W.mg_of X G a_lowest, fun_mk (st := s_lowest) l_lowest c_lowest k_lowest, (fun_mk (st := s_lowest) l_lowest c_lowest k_lowest).binds fun _ _ _ _ _ _ us hl => match us, hl with | [_, _], _ => rfl⟩,
   ⟨_, _, PySem.W.mg_of X G a_twos_in, fun_mk (st := s_twos_in) l_twos_in c_twos_in k_twos_in, (fun_mk (st := s_twos_in) l_twos_in c_twos_in k_twos_in).binds fun _ _ _ _ _ _ us hl => match us, hl with | [_], _ => rfl⟩,
   ⟨_, _, PySem.W.mg_of X G a_out_of, fun_mk (st := s_out_of) l_out_of c_out_of k_out_of, (fun_mk (st := s_out_of) l_out_of c_out_of k_out_of).binds fun _ _ _ _ _ _ us hl => match us, hl with | [_, _, _], _ => rfl⟩,
   ⟨_, _, PySem.W.mg_of X G a_lighting, fun_mk (st := s_lighting) l_lighting c_lighting k_lighting, (fun_mk (st := s_lighting) l_lighting c_lighting k_lighting).binds fun _ _ _ _ _ _ us hl => match us, hl with | [_, _], _ => rfl⟩,
   ⟨_, _, PySem.W.mg_of X G a_measured, fun_mk (st := s_measured) l_measured c_measured k_measured, (fun_mk (st := s_measured) l_measured c_measured k_measured).binds fun _ _ _ _ _ _ us hl => match us, hl with | [_], _ => rfl⟩,
   ⟨_, _, PySem.W.mg_of X G a_next_moment, fun_mk (st := s_next_moment) l_next_moment c_next_moment k_next_moment, (fun_mk (st := s_next_moment) l_next_moment c_next_moment k_next_moment).binds fun _ _ _ _ _ _ us hl => match us, hl with | [_, _], _ => rfl⟩,
   ⟨_, _, PySem.W.mg_of X G a_first_plans, fun_mk (st := s_first_plans) l_first_plans c_first_plans k_first_plans, (fun_mk (st := s_first_plans) l_first_plans c_first_plans k_first_plans).binds fun _ _ _ _ _ _ us hl => match us, hl with | [_], _ => rfl⟩,
   ⟨_, _, PySem.W.mg_of X G a_longer_by_one, fun_mk (st := s_longer_by_one) l_longer_by_one c_longer_by_one k_longer_by_one, (fun_mk (st := s_longer_by_one) l_longer_by_one c_longer_by_one k_longer_by_one).binds fun _ _ _ _ _ _ us hl => match us, hl with | [_, _], _ => rfl⟩,
   ⟨_, _, PySem.W.mg_of X G a_out_or_none, fun_mk (st := s_out_or_none) l_out_or_none c_out_or_none k_out_or_none, (fun_mk (st := s_out_or_none) l_out_or_none c_out_or_none k_out_or_none).binds fun _ _ _ _ _ _ us hl => match us, hl with | [_, _, _], _ => rfl⟩,
   ⟨_, _, PySem.W.mg_of X G a_ropes_in_order, fun_mk (st := s_ropes_in_order) l_ropes_in_order c_ropes_in_order k_ropes_in_order, (fun_mk (st := s_ropes_in_order) l_ropes_in_order c_ropes_in_order k_ropes_in_order).binds fun _ _ _ _ _ _ us hl => match us, hl with | [_], _ => rfl⟩,
   ⟨_, _, PySem.W.mg_of X G a_law_cell_at, fun_mk (st := s_law_cell_at) l_law_cell_at c_law_cell_at k_law_cell_at, (fun_mk (st := s_law_cell_at) l_law_cell_at c_law_cell_at k_law_cell_at).binds fun _ _ _ _ _ _ us hl => match us, hl with | [_, _], _ => rfl⟩,
   ⟨_, _, PySem.W.mg_of X G a_law_low, fun_mk (st := s_law_low) l_law_low c_law_low k_law_low, (fun_mk (st := s_law_low) l_law_low c_law_low k_law_low).binds fun _ _ _ _ _ _ us hl => match us, hl with | [_, _], _ => rfl⟩,
   ⟨_, _, PySem.W.mg_of X G a_law_sum, fun_mk (st := s_law_sum) l_law_sum c_law_sum k_law_sum, (fun_mk (st := s_law_sum) l_law_sum c_law_sum k_law_sum).binds fun _ _ _ _ _ _ us hl => match us, hl with | [_, _], _ => rfl⟩,
   ⟨_, _, PySem.W.mg_of X G a_law_less, fun_mk (st := s_law_less) l_law_less c_law_less k_law_less, (fun_mk (st := s_law_less) l_law_less c_law_less k_law_less).binds fun _ _ _ _ _ _ us hl => match us, hl with | [_, _], _ => rfl⟩,
   ⟨_, _, PySem.W.mg_of X G a_law_gap, fun_mk (st := s_law_gap) l_law_gap c_law_gap k_law_gap, (fun_mk (st := s_law_gap) l_law_gap c_law_gap k_law_gap).binds fun _ _ _ _ _ _ us hl => match us, hl with | [_, _], _ => rfl⟩,
   ⟨_, _, PySem.W.mg_of X G a_law_fraction, fun_mk (st := s_law_fraction) l_law_fraction c_law_fraction k_law_fraction, (fun_mk (st := s_law_fraction) l_law_fraction c_law_fraction k_law_fraction).binds fun _ _ _ _ _ _ us hl => match us, hl with | [_, _], _ => rfl⟩,
   ⟨_, _, PySem.W.mg_of X G a_law_moment, fun_mk (st := s_law_moment) l_law_moment c_law_moment k_law_moment, (fun_mk (st := s_law_moment) l_law_moment c_law_moment k_law_moment).binds fun _ _ _ _ _ _ us hl => match us, hl with | [_], _ => rfl⟩,
   ⟨_, _, PySem.W.mg_of X G a_law_new_moments, fun_mk (st := s_law_new_moments) l_law_new_moments c_law_new_moments k_law_new_moments, (fun_mk (st := s_law_new_moments) l_law_new_moments c_law_new_moments k_law_new_moments).binds fun _ _ _ _ _ _ us hl => match us, hl with | [_], _ => rfl⟩,
   ⟨_, _, PySem.W.mg_of X G a_law_put_in, fun_mk (st := s_law_put_in) l_law_put_in c_law_put_in k_law_put_in, (fun_mk (st := s_law_put_in) l_law_put_in c_law_put_in k_law_put_in).binds fun _ _ _ _ _ _ us hl => match us, hl with | [_, _], _ => rfl⟩,
   ⟨_, _, PySem.W.mg_of X G a_law_reached, fun_mk (st := s_law_reached) l_law_reached c_law_reached k_law_reached, (fun_mk (st := s_law_reached) l_law_reached c_law_reached k_law_reached).binds fun _ _ _ _ _ _ us hl => match us, hl with | [_], _ => rfl⟩,
   ⟨_, _, PySem.W.mg_of X G a_law_most, fun_mk (st := s_law_most) l_law_most c_law_most k_law_most, (fun_mk (st := s_law_most) l_law_most c_law_most k_law_most).binds fun _ _ _ _ _ _ us hl => match us, hl with | [_], _ => rfl⟩,
   ⟨_, _, PySem.W.mg_of X G a_law, fun_mk (st := s_law) l_law c_law k_law, (fun_mk (st := s_law) l_law c_law k_law).binds fun _ _ _ _ _ _ us hl => match us, hl with | [_], _ => rfl⟩,
   ⟨_, PySem.W.mg_of X G a_START, _, _, _, l_START, rfl, rfl, (by show 2 ≤ sizeLine; decide), .cons ⟨_, rfl⟩ (.cons ⟨_, rfl⟩ (.nil))⟩,
   ⟨_, PySem.W.mg_of X G a_BEGINNING⟩,
   ⟨_, PySem.W.mg_of X G a_HOUR, _, _, _, l_HOUR, rfl, rfl, (by show 2 ≤ sizeLine; decide), .cons ⟨_, rfl⟩ (.cons ⟨_, rfl⟩ (.nil))⟩,
   ⟨_, _, _, _, ⟨PySem.W.mg_of X G a_RopeError, ⟨_, _, _, _, _, _, _, _, _, _, _, _, _, _, _, l_RopeError⟩⟩, ⟨PySem.W.mg_of X G a_Late, ⟨_, _, _, _, _, _, _, _, _, _, _, _, _, _, _, l_Late⟩, ⟨xg, xr, xa⟩, in_Late, fn_Late, kp_Late, sa_Late, no_Late, ⟨ga_Late, hk_Late, be_Late, ob_Late, ck_Late, gk_Late, tk_Late, hd_Late_⟩, nr_Late, fun_mk (st := s_Late_init__) l_Late_init c_Late_init k_Late_init, (fun_mk (st := s_Late_init__) l_Late_init c_Late_init k_Late_init).binds fun _ _ _ _ _ _ us hl => match us, hl with | [_, _], _ => rfl⟩⟩,
   PySem.W.mg_none_of X G z_ValueError,
   PySem.W.mg_none_of X G z_abs,
   PySem.W.mg_none_of X G z_bool,
   PySem.W.mg_none_of X G z_int,
   PySem.W.mg_none_of X G z_isinstance,
   PySem.W.mg_none_of X G z_len,
   PySem.W.mg_none_of X G z_list,
   PySem.W.mg_none_of X G z_max,
   PySem.W.mg_none_of X G z_min,
   PySem.W.mg_none_of X G z_range,
   PySem.W.mg_none_of X G z_sorted,
   PySem.W.mg_none_of X G z_tuple⟩
theorem law_binds {K : PySem.W.Frag} {f : Addr} {fd : FuncData} (F : Fun K "law" "law" s_law f fd) (s : Shared) (u : Value) : BindsTo s fd ⟨[u], []⟩ [("script", u)] := by
  obtain ⟨oc, od, kV, doc, pm, an, cdv, ct, osl, rfl, lk, hcd⟩ := F.ex
  exact .of_eq rfl
theorem walk {l : PySem.W.OpenLaw} {q : Program} {loose : List Str} {XP : (Str → Option Value) → Heap → Prop} {YP : World → Heap → Prop} {d : DefRec} {K : Params → PySem.W.Frag} {Tb : Addr} (hn : l.most = some 63) (hdf : d.params.defaults = [])
    (hY : ∀ (w : World) (h : Heap), YP w h → (K w.params).In h ∧ h.get? Tb = some (PySem.W.tabObj #[]))
    (F : ∀ (w : World) (mg : Str → Option Value) (fa : Addr) (h : Heap), (K w.params).In h → h.Ns mainGlobals mg → mg d.name = some (.ref fa) →
      ∃ fd : FuncData, Tab (K w.params) mg Tb ∧ (∀ (s : Shared) (u : Value), BindsTo s fd ⟨[u], []⟩ [("script", u)]) ∧ (Tab (K w.params) mg Tb → ∀ base : Heap, BMod mg base → FnOk l.prog w (K w.params) mg base CX0 12 fa fd ["script"] (spLaw (K w.params) Tb))) :
    PySem.W.WalkO q loose XP YP l.row.toRowW d [] (fun f vs => PySem.call f vs) :=
  L2.walk_ofT (P := Tb) (n := 63) (k := 12) (x := "script") (CX := fun _ => CX0) (sp := fun w => spLaw (K w.params) Tb) hn (by decide) hdf ⟨rfl, by decide, by decide⟩ hY (fun w mg fa h KX G hm => let ⟨fd, U, hb, hF⟩ := F w mg fa h KX G hm; let ⟨c, _, t⟩ := U.c; ⟨fd, c, U.n, t, hb, fun base _ _ bm => hF U base bm⟩) (fun _ _ a ns hl hP hS => ⟨a, ns, rfl, hS, hl, ⟨_, hP, trivial, .inl rfl⟩, fun _ => rfl⟩) fun _ _ _ _ _ z => z
end Rp
open PySem PySem.W PyProof.Rows
set_option maxRecDepth 100000 in
set_option maxHeartbeats 0 in
theorem PySem.Challenge.cw_ropeclock_k08_the_next_moment_holds : PySem.Challenge.rw_ropeclock_k08_the_next_moment.Holds := by
  w_on; o_law; k_head; (case hw => w_witness2)
  k_fill
  refine Rp.walk (l := PySem.Challenge.rw_ropeclock_k08_the_next_moment) rfl rfl (fun w h Y => ⟨PySem.W.km_in_of Y, PySem.W.km_tabs_of Y _ (List.Mem.head _)⟩) ?F
  case F =>
    intro w mg fa h KX G hmg
    have T : Rp.Txt (L2.KOf KX) mg := by
      dsimp only [L2.KOf]
      refine' Rp.txt_mk KX G ?a_mean_and_half ?l_mean_and_half ?c_mean_and_half ?k_mean_and_half ?a_hour_behind ?l_hour_behind ?c_hour_behind ?k_hour_behind ?a_earlier ?l_earlier ?c_earlier ?k_earlier ?a_between ?l_between ?c_between ?k_between ?a_in_order ?l_in_order ?c_in_order ?k_in_order ?a_top_over ?l_top_over ?c_top_over ?k_top_over ?a_lowest ?l_lowest ?c_lowest ?k_lowest ?a_twos_in ?l_twos_in ?c_twos_in ?k_twos_in ?a_out_of ?l_out_of ?c_out_of ?k_out_of ?a_lighting ?l_lighting ?c_lighting ?k_lighting ?a_measured ?l_measured ?c_measured ?k_measured ?a_next_moment ?l_next_moment ?c_next_moment ?k_next_moment ?a_first_plans ?l_first_plans ?c_first_plans ?k_first_plans ?a_longer_by_one ?l_longer_by_one ?c_longer_by_one ?k_longer_by_one ?a_out_or_none ?l_out_or_none ?c_out_or_none ?k_out_or_none ?a_ropes_in_order ?l_ropes_in_order ?c_ropes_in_order ?k_ropes_in_order ?a_law_cell_at ?l_law_cell_at ?c_law_cell_at ?k_law_cell_at ?a_law_low ?l_law_low ?c_law_low ?k_law_low ?a_law_sum ?l_law_sum ?c_law_sum ?k_law_sum ?a_law_less ?l_law_less ?c_law_less ?k_law_less ?a_law_gap ?l_law_gap ?c_law_gap ?k_law_gap ?a_law_fraction ?l_law_fraction ?c_law_fraction ?k_law_fraction ?a_law_moment ?l_law_moment ?c_law_moment ?k_law_moment ?a_law_new_moments ?l_law_new_moments ?c_law_new_moments ?k_law_new_moments ?a_law_put_in ?l_law_put_in ?c_law_put_in ?k_law_put_in ?a_law_reached ?l_law_reached ?c_law_reached ?k_law_reached ?a_law_most ?l_law_most ?c_law_most ?k_law_most ?a_law ?l_law ?c_law ?k_law ?a_START ?l_START ?a_BEGINNING ?a_HOUR ?l_HOUR ?a_RopeError ?l_RopeError ?a_Late ?l_Late ?xg ?xr ?xa ?in_Late ?fn_Late ?kp_Late ?sa_Late ?no_Late ?ga_Late ?hk_Late ?be_Late ?ob_Late ?ck_Late ?gk_Late ?tk_Late ?hd_Late_ ?nr_Late ?l_Late_init ?c_Late_init ?k_Late_init ?z_ValueError ?z_abs ?z_bool ?z_int ?z_isinstance ?z_len ?z_list ?z_max ?z_min ?z_range ?z_sorted ?z_tuple
      (case a_mean_and_half => k_is)
      (case l_mean_and_half => k_is)
      (case c_mean_and_half => k_is)
      (case k_mean_and_half => k_is)
      (case a_hour_behind => k_is)
      (case l_hour_behind => k_is)
      (case c_hour_behind => k_is)
      (case k_hour_behind => k_is)
      (case a_earlier => k_is)
      (case l_earlier => k_is)
      (case c_earlier => k_is)
      (case k_earlier => k_is)
      (case a_between => k_is)
      (case l_between => k_is)
      (case c_between => k_is)
      (case k_between => k_is)
      (case a_in_order => k_is)
      (case l_in_order => k_is)
      (case c_in_order => k_is)
      (case k_in_order => k_is)
      (case a_top_over => k_is)
      (case l_top_over => k_is)
      (case c_top_over => k_is)
      (case k_top_over => k_is)
      (case a_lowest => k_is)
      (case l_lowest => k_is)
      (case c_lowest => k_is)
      (case k_lowest => k_is)
      (case a_twos_in => k_is)
      (case l_twos_in => k_is)
      (case c_twos_in => k_is)
      (case k_twos_in => k_is)
      (case a_out_of => k_is)
      (case l_out_of => k_is)
      (case c_out_of => k_is)
      (case k_out_of => k_is)
      (case a_lighting => k_is)
      (case l_lighting => k_is)
      (case c_lighting => k_is)
      (case k_lighting => k_is)
      (case a_measured => k_is)
      (case l_measured => k_is)
      (case c_measured => k_is)
      (case k_measured => k_is)
      (case a_next_moment => k_is)
      (case l_next_moment => k_is)
      (case c_next_moment => k_is)
      (case k_next_moment => k_is)
      (case a_first_plans => k_is)
      (case l_first_plans => k_is)
      (case c_first_plans => k_is)
      (case k_first_plans => k_is)
      (case a_longer_by_one => k_is)
      (case l_longer_by_one => k_is)
      (case c_longer_by_one => k_is)
      (case k_longer_by_one => k_is)
      (case a_out_or_none => k_is)
      (case l_out_or_none => k_is)
      (case c_out_or_none => k_is)
      (case k_out_or_none => k_is)
      (case a_ropes_in_order => k_is)
      (case l_ropes_in_order => k_is)
      (case c_ropes_in_order => k_is)
      (case k_ropes_in_order => k_is)
      (case a_law_cell_at => k_is)
      (case l_law_cell_at => k_is)
      (case c_law_cell_at => k_is)
      (case k_law_cell_at => k_is)
      (case a_law_low => k_is)
      (case l_law_low => k_is)
      (case c_law_low => k_is)
      (case k_law_low => k_is)
      (case a_law_sum => k_is)
      (case l_law_sum => k_is)
      (case c_law_sum => k_is)
      (case k_law_sum => k_is)
      (case a_law_less => k_is)
      (case l_law_less => k_is)
      (case c_law_less => k_is)
      (case k_law_less => k_is)
      (case a_law_gap => k_is)
      (case l_law_gap => k_is)
      (case c_law_gap => k_is)
      (case k_law_gap => k_is)
      (case a_law_fraction => k_is)
      (case l_law_fraction => k_is)
      (case c_law_fraction => k_is)
      (case k_law_fraction => k_is)
      (case a_law_moment => k_is)
      (case l_law_moment => k_is)
      (case c_law_moment => k_is)
      (case k_law_moment => k_is)
      (case a_law_new_moments => k_is)
      (case l_law_new_moments => k_is)
      (case c_law_new_moments => k_is)
      (case k_law_new_moments => k_is)
      (case a_law_put_in => k_is)
      (case l_law_put_in => k_is)
      (case c_law_put_in => k_is)
      (case k_law_put_in => k_is)
      (case a_law_reached => k_is)
      (case l_law_reached => k_is)
      (case c_law_reached => k_is)
      (case k_law_reached => k_is)
      (case a_law_most => k_is)
      (case l_law_most => k_is)
      (case c_law_most => k_is)
      (case k_law_most => k_is)
      (case a_law => k_is)
      (case l_law => k_is)
      (case c_law => k_is)
      (case k_law => k_is)
      (case a_START => k_is)
      (case l_START => k_is)
      (case a_BEGINNING => k_is)
      (case a_HOUR => k_is)
      (case l_HOUR => k_is)
      (case a_RopeError => k_is)
      (case l_RopeError => k_is)
      (case a_Late => k_is)
      (case l_Late => k_is)
      (case xg => k_is)
      (case xr => k_is)
      (case xa => k_is)
      (case in_Late => k_is)
      (case fn_Late => k_is)
      (case kp_Late => k_is)
      (case sa_Late => k_is)
      (case no_Late => k_is)
      (case ga_Late => k_is)
      (case hk_Late => k_is)
      (case be_Late => k_is)
      (case ob_Late => k_is)
      (case ck_Late => k_is)
      (case gk_Late => k_is)
      (case tk_Late => k_is)
      (case hd_Late_ => k_is)
      (case nr_Late => k_is)
      (case l_Late_init => k_is)
      (case c_Late_init => k_is)
      (case k_Late_init => k_is)
      (case z_ValueError => k_is)
      (case z_abs => k_is)
      (case z_bool => k_is)
      (case z_int => k_is)
      (case z_isinstance => k_is)
      (case z_len => k_is)
      (case z_list => k_is)
      (case z_max => k_is)
      (case z_min => k_is)
      (case z_range => k_is)
      (case z_sorted => k_is)
      (case z_tuple => k_is)
    obtain ⟨f, fd, h1, h2, h3⟩ := T.d_law
    have e := hmg.symm.trans h1
    cases e
    refine' ⟨fd, Rp.tab_mk KX G ?ta ?tl ?td ?te ?tt ?tn, fun s u => Rp.law_binds h2 s u, fun U base bm => Rp.law_fn T U bm h2⟩
    (case ta => k_is)
    (case tl => k_is)
    (case td => rfl)
    (case te => rfl)
    (case tt => first | kernel_rfl | k_is)
    (case tn => first | kernel_rfl | k_is)
#print axioms PySem.Challenge.cw_ropeclock_k08_the_next_moment_holds
