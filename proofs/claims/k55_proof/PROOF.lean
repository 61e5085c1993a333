import PyProof.Rows.All
import Wide.All
import OpenK.AllK
import Wide.FinOn
import Lean
import PyProof.EqAt
import PyProof.EqKinds
import PyProof.TupleCall
import PySem.Challenge.RW_placedworks_k55_silent
-- CHANGE: your row's module here, as the last of these rows
set_option Elab.async false
set_option linter.all false
set_option maxRecDepth 100000
/-! THE HAND LAYER, for ints, bools, texts, own classes, LISTS and tuples (index, slices, in, append, pop ..), calls, loops. Paste it whole ahead of your own text; what your proof does not reach may be deleted. -/
namespace L2
open PySem PySem.Spec PyProof.Rows

/-- a key: an int or a str -/
abbrev Key := Sum Int Str
def keyIs : Key → Value → Bool
  | .inl k, v => Value.isInt k v
  | .inr x, v => Value.isStrOf x v
def keyH (w : World) : Key → Int
  | .inl k => hashInt k
  | .inr x => hashStr w x
theorem keyIs_shape : ∀ {k : Key} {v : Value}, keyIs k v = true → (∃ i t, k = Sum.inl i ∧ v = Value.int i t) ∨ (∃ x t, k = Sum.inr x ∧ v = Value.str x t)
  | .inl i, v, h => by
    obtain ⟨t, e⟩ := Value.isInt_shape (k := i) (v := v) h
    exact .inl ⟨i, t, rfl, e⟩
  | .inr x, v, h => by
    obtain ⟨t, e⟩ := Value.isStrOf_shape (x := x) (v := v) h
    exact .inr ⟨x, t, rfl, e⟩
theorem keyIs_int (i : Int) (t : Tok) : keyIs (.inl i) (.int i t) = true := by simp [keyIs, Value.isInt]
theorem keyIs_str (x : Str) (t : Tok) : keyIs (.inr x) (.str x t) = true := by simp [keyIs, Value.isStrOf]
theorem key_ll (a b : Int) : decide ((Sum.inl a : Key) = Sum.inl b) = (a == b) := by
  by_cases e : a = b
  · subst e; simp
  · have h : ¬ (Sum.inl a : Key) = Sum.inl b := fun q => e (Sum.inl.inj q)
    rw [decide_eq_false h]
    exact (beq_eq_false_iff_ne.mpr e).symm
theorem key_rr (a b : Str) : decide ((Sum.inr a : Key) = Sum.inr b) = decide (a = b) := by
  by_cases e : a = b
  · subst e; simp
  · have h : ¬ (Sum.inr a : Key) = Sum.inr b := fun q => e (Sum.inr.inj q)
    rw [decide_eq_false h, decide_eq_false e]
theorem key_lr (a : Int) (b : Str) : decide ((Sum.inl a : Key) = Sum.inr b) = false := decide_eq_false (fun q => nomatch q)
theorem key_rl (a : Str) (b : Int) : decide ((Sum.inr a : Key) = Sum.inl b) = false := decide_eq_false (fun q => nomatch q)

def mixKind (prog : Program) (w : World) : PySem.KeyKind prog w Key where
  is := keyIs
  hash := keyH w
  inj := fun v a b ha hb => by
    rcases keyIs_shape ha with ⟨i, t, rfl, rfl⟩ | ⟨x, t, rfl, rfl⟩
    · rcases keyIs_shape hb with ⟨j, u, rfl, e⟩ | ⟨y, u, rfl, e⟩
      · injection e with e1 _; rw [e1]
      · exact nomatch e
    · rcases keyIs_shape hb with ⟨j, u, rfl, e⟩ | ⟨y, u, rfl, e⟩
      · exact nomatch e
      · injection e with e1 _; rw [e1]
  byValue := fun k v h => by
    rcases keyIs_shape h with ⟨i, t, rfl, rfl⟩ | ⟨x, t, rfl, rfl⟩ <;> rfl
  pyHash := fun hv h => by
    rcases keyIs_shape hv with ⟨i, t, rfl, rfl⟩ | ⟨x, t, rfl, rfl⟩
    · exact wpAny_pyHash_int h
    · exact wpAny_pyHash_str h
  eqBool := fun hu hv h => by
    rcases keyIs_shape hu with ⟨i, t, rfl, rfl⟩ | ⟨x, t, rfl, rfl⟩
    · rcases keyIs_shape hv with ⟨j, u, rfl, rfl⟩ | ⟨y, u, rfl, rfl⟩
      · rw [key_ll] at h; exact wpAny_eqBool_int h
      · rw [key_lr] at h; exact SeqAt.EqAt.int_str i t y u _ _ _ _ h
    · rcases keyIs_shape hv with ⟨j, u, rfl, rfl⟩ | ⟨y, u, rfl, rfl⟩
      · rw [key_rl] at h; exact SeqAt.EqAt.str_int x t j u _ _ _ _ h
      · rw [key_rr] at h; exact wpAny_eqBool_str h
  «strs» := fun k x t v h => by
    rcases keyIs_shape h with ⟨i, u, rfl, e⟩ | ⟨y, u, rfl, e⟩
    · exact nomatch e
    · injection e with e1 _
      subst e1
      cases v <;> rfl

theorem mixKind_is (prog : Program) (w : World) (k : Key) (v : Value) : (mixKind prog w).is k v = keyIs k v := rfl
theorem mixKind_int (prog : Program) (w : World) (i : Int) (t : Tok) : (mixKind prog w).is (.inl i) (.int i t) = true := keyIs_int i t
theorem mixKind_str (prog : Program) (w : World) (x : Str) (t : Tok) : (mixKind prog w).is (.inr x) (.str x t) = true := keyIs_str x t
end L2

namespace L2
open PySem PySem.Spec PyProof.Rows

/-- a value, without the heap -/
inductive V where
  | non | bl (b : Bool) | int (i : Int) | str (x : Str) | byt (b : Array UInt8) | flt (b : UInt64) | ref (a : Addr) | ty (n : String)
  deriving DecidableEq

def RelV : V → Value → Prop
  | .non, u => u = Value.none
  | .bl b, u => u = Value.bool b
  | .int i, u => ∃ t, u = Value.int i t
  | .str x, u => ∃ t, u = Value.str x t
  | .byt b, u => ∃ t, u = Value.bytes b t
  | .flt b, u => ∃ t, u = Value.float b t
  | .ref a, u => u = Value.ref a
  | .ty n, u => u = Value.type n

abbrev Vals : List V → List Value → Prop := Paired RelV
theorem Vals.length {xs : List V} {us : List Value} (r : Vals xs us) : xs.length = us.length := Paired.length r
theorem Vals.get : ∀ {xs : List V} {us : List Value} {i : Nat} {x : V}, Vals xs us → xs[i]? = some x → ∃ u, us[i]? = some u ∧ RelV x u
  | _, _, _, _, .nil, e => by simp at e
  | _, _, 0, _, .cons r _, e => by simp at e; subst e; exact ⟨_, rfl, r⟩
  | _, _, i + 1, x, .cons _ t, e => by
    obtain ⟨u, h1, h2⟩ := Vals.get (i := i) (x := x) t (by simpa using e)
    exact ⟨u, by simpa using h1, h2⟩
theorem Vals.set {x : V} {u : Value} (r : RelV x u) : ∀ {xs : List V} {us : List Value} (i : Nat), Vals xs us → Vals (xs.set i x) (us.set i u)
  | _, _, _, .nil => .nil
  | _, _, 0, .cons _ t => .cons r t
  | _, _, i + 1, .cons q t => .cons q (Vals.set r i t)
theorem Vals.append : ∀ {xs ys : List V} {us ws : List Value}, Vals xs us → Vals ys ws → Vals (xs ++ ys) (us ++ ws)
  | _, _, _, _, .nil, s => s
  | _, _, _, _, .cons r t, s => .cons r (Vals.append t s)
theorem Vals.take : ∀ {xs : List V} {us : List Value} (n : Nat), Vals xs us → Vals (xs.take n) (us.take n)
  | _, _, 0, _ => .nil
  | _, _, _ + 1, .nil => .nil
  | _, _, n + 1, .cons r t => .cons r (Vals.take n t)
theorem Vals.drop : ∀ {xs : List V} {us : List Value} (n : Nat), Vals xs us → Vals (xs.drop n) (us.drop n)
  | _, _, 0, r => r
  | _, _, _ + 1, .nil => .nil
  | _, _, n + 1, .cons _ t => Vals.drop n t
theorem Vals.none_of : ∀ {xs : List V} {us : List Value} {i : Nat}, Vals xs us → xs[i]? = none → us[i]? = none := fun {xs us i} r e => by
  have h1 := r.length
  have h2 : xs.length ≤ i := List.getElem?_eq_none_iff.mp e
  exact List.getElem?_eq_none_iff.mpr (by omega)

def RelO : Option V → Option Value → Prop
  | some v, some u => RelV v u
  | none, none => True
  | _, _ => False
def KV {κ : Type} : List (κ × V) → List (κ × Value) → Prop := Paired fun (p : κ × V) (q : κ × Value) => p.1 = q.1 ∧ RelV p.2 q.2

/-- a key of a dict (00_mix): an int or a text -/
def kV : Key → V
  | .inl i => .int i
  | .inr x => .str x

/-- what stands at a tracked address -/
inductive HO where
  /-- a list -/
  | lst (xs : List V)
  /-- a tuple (never changes) -/
  | tup (xs : List V)
  /-- a dict whose keys are ints and texts; one whose keys are tuples of ints and texts (the empty one is both) -/
  | dK (kvs : List (Key × V)) | dT (kvs : List (List Key × V))
  /-- a set of ints: its members, its size -/
  | set (S : Int → Bool) (n : Nat)
  /-- an instance of the class at C, its dict at dx, its attributes -/
  | ins (C dx : Addr) (fs : List (Str × V))
  /-- the dict of the instance at x -/
  | own (x : Addr)
  /-- the dict of an exception -/
  | xd (fs : List (Str × V))
  /-- a bound method, f of x -/
  | met (f x : Addr)
  /-- a range object lo, lo + 1, .. below hi -/
  | rng (lo hi : Int)
  /-- a thing that is known to the object (the script; a dict while a loop walks it): read, never written while it is so -/
  | frz (o : Obj) (u : HO)
  /-- a code object's table -/
  | tbl (ps : Array Value)
  /-- any other thing, by what is true of its one object (a def of one's own: SetO a S n := HO.ext fun h => ..) -/
  | ext (φ : Heap → Prop)

abbrev Hp := Addr → Option HO
def upd (H : Hp) (a : Addr) (o : HO) : Hp := fun b => if b = a then some o else H b
theorem upd_same {H : Hp} {a : Addr} {o : HO} : upd H a o a = some o := by unfold upd; rw [if_pos rfl]
theorem upd_ne {H : Hp} {a b : Addr} {o : HO} (h : b ≠ a) : upd H a o b = H b := by unfold upd; rw [if_neg h]
theorem upd_upd {H : Hp} {a : Addr} {o u : HO} : upd (upd H a o) a u = upd H a u := by
  funext b; unfold upd; split <;> rfl
/-- two objects of different content stand apart -/
theorem ne_of {H : Hp} {a b : Addr} {o u : HO} (h : H a = some o) (h' : H b = some u) (d : o ≠ u) : a ≠ b := by
  intro e; subst e; rw [h] at h'; exact d (Option.some.inj h')
theorem ne_of_none {H : Hp} {a b : Addr} {o : HO} (h : H a = some o) (h' : H b = none) : a ≠ b := by
  intro e; subst e; rw [h] at h'; cases h'

section
variable (P : Program) (w : World)
def ObjOk (H : Hp) (h : Heap) (a : Addr) : HO → Prop
  | .lst xs => xs.length ≤ sizeLine ∧ ∃ (its : List Value) (n : Nat), Vals xs its ∧ h.get? a = some { cls := .type "list", data := .seq its.toArray n }
  | .tup xs => xs.length ≤ sizeLine ∧ ∃ its : List Value, Vals xs its ∧ IsTup h a its.toArray
  | .dK kvs => kvs.length ≤ sizeLine ∧ (a == sysModules) = false ∧ ∃ vs, KV kvs vs ∧ h.DictOf (mixKind P w) a vs
  | .dT kvs => kvs.length ≤ sizeLine ∧ (a == sysModules) = false ∧ ∃ xs : List (List Key × Addr × Value),
      Paired (fun (p : List Key × V) (q : List Key × Addr × Value) => p.1 = q.1 ∧ H q.2.1 = some (.tup (p.1.map kV)) ∧ RelV p.2 q.2.2) kvs xs ∧
      ∃ o es ep, h.get? a = some o ∧ o.ExactDict ∧ o.data = .dict es ep ∧ es.toList = xs.map (entryOfKey (tupleKind (mixKind P w))) ∧ (xs.map (·.1)).Nodup
  | .set S n => h.SetOf (intKind P w) a S n
  | .ins C dx fs => H dx = some (.own a) ∧ fs.length ≤ 1000 ∧ dx ≠ a ∧ h.get? a = some (PySem.W.instObj C dx) ∧
      ∃ mA, h.Ns1 dx mA ∧ (∀ f, RelO (fs.lookup f) (mA f)) ∧ PySem.Within mA (fs.map (·.1))
  | .own _ => ∃ o, h.get? a = some o
  | .xd fs => ∃ mA, h.Ns1 a mA ∧ ∀ f, RelO (fs.lookup f) (mA f)
  | .rng lo hi => ∃ t u v, h.get? a = some { cls := .type "range", data := .fields #[.int lo t, .int hi u, .int 1 v] }
  | .frz o u => h.get? a = some o ∧ ObjOk H h a u
  | .tbl ps => h.get? a = some { cls := .none, data := .fields ps }
  | .met f x => h.get? a = some (PySem.W.methodObj (.ref f) (.ref x))
  | .ext φ => φ h ∧ (∃ o, h.get? a = some o) ∧ ∀ h1 h2 : Heap, φ h1 → (∀ o, h1.get? a = some o → h2.get? a = some o) → φ h2
/-- the abstract heap is held -/
def HOk (H : Hp) (h : Heap) : Prop := ∀ a o, H a = some o → ObjOk P w H h a o
end

section
variable {P : Program} {w : World} {H H' : Hp} {h h' : Heap} {a : Addr} {o : HO}
theorem ObjOk.lt (x : ObjOk P w H h a o) : a < h.objs.size := by
  cases o with
  | lst xs => obtain ⟨_, _, _, _, e⟩ := x; exact Heap.lt_size e
  | tup xs => obtain ⟨_, _, _, p⟩ := x; exact p.lt
  | dK kvs => obtain ⟨_, _, _, _, o, _, _, e, _⟩ := x; exact Heap.lt_size e
  | dT kvs => obtain ⟨_, _, _, _, o, _, _, e, _⟩ := x; exact Heap.lt_size e
  | set S n => obtain ⟨o, _, _, _, e, _⟩ := x; exact Heap.lt_size e
  | ins C dx fs => obtain ⟨_, _, _, e, _⟩ := x; exact Heap.lt_size e
  | own y => obtain ⟨_, e⟩ := x; exact Heap.lt_size e
  | xd fs => obtain ⟨_, ⟨_, _, _, e, _⟩, _⟩ := x; exact Heap.lt_size e
  | rng lo hi => obtain ⟨_, _, _, e⟩ := x; exact Heap.lt_size e
  | frz ob u => obtain ⟨e, _⟩ := x; exact Heap.lt_size e
  | tbl ps => exact Heap.lt_size (show h.get? a = some _ from x)
  | met f y => exact Heap.lt_size (show h.get? a = some _ from x)
  | ext φ => obtain ⟨_, ⟨_, e⟩, _⟩ := x; exact Heap.lt_size e
theorem Paired.mapP {α β : Type} {F G : α → β → Prop} : ∀ {l₁ : List α} {l₂ : List β}, Paired F l₁ l₂ → (∀ a b, F a b → G a b) → Paired G l₁ l₂
  | _, _, .nil, _ => .nil
  | _, _, .cons r t, f => .cons (f _ _ r) (Paired.mapP t f)
theorem Paired.imp' {α β : Type} {F G : α → β → Prop} (f : ∀ a b, F a b → G a b) {l₁ : List α} {l₂ : List β} (r : Paired F l₁ l₂) : Paired G l₁ l₂ := Paired.mapP r f
/-- what an object's description leans on: its own object, its own dict, the tuples -/
theorem ObjOk.stay (x : ObjOk P w H h a o) (k : ∀ b u, (b = a ∨ H b = some (.own a)) → h.get? b = some u → h'.get? b = some u)
    (ho : ∀ b, H b = some (.own a) → H' b = some (.own a)) (ht : ∀ b xs, H b = some (.tup xs) → H' b = some (.tup xs)) : ObjOk P w H' h' a o := by
  induction o with
  | lst xs => obtain ⟨z, its, n, r, e⟩ := x; exact ⟨z, its, n, r, k _ _ (.inl rfl) e⟩
  | tup xs => obtain ⟨z, its, r, ob, e, c⟩ := x; exact ⟨z, its, r, ob, k _ _ (.inl rfl) e, c⟩
  | dK kvs => obtain ⟨z, y, vs, r, ob, es, ep, e, c⟩ := x; exact ⟨z, y, vs, r, ob, es, ep, k _ _ (.inl rfl) e, c⟩
  | dT kvs =>
    obtain ⟨z, y, xs, r, ob, es, ep, e, c⟩ := x
    exact ⟨z, y, xs, Paired.mapP r fun p q z => ⟨z.1, ht _ _ z.2.1, z.2.2⟩, ob, es, ep, k _ _ (.inl rfl) e, c⟩
  | set S n => obtain ⟨ob, es, ep, t, e, c⟩ := x; exact ⟨ob, es, ep, t, k _ _ (.inl rfl) e, c⟩
  | ins C dx fs =>
    obtain ⟨d, z, ne, e, mA, ⟨od, es, ep, e2, c⟩, r⟩ := x
    exact ⟨ho _ d, z, ne, k _ _ (.inl rfl) e, mA, ⟨od, es, ep, k _ _ (.inr d) e2, c⟩, r⟩
  | own y => obtain ⟨ob, e⟩ := x; exact ⟨ob, k _ _ (.inl rfl) e⟩
  | xd fs => obtain ⟨mA, ⟨od, es, ep, e, c⟩, r⟩ := x; exact ⟨mA, ⟨od, es, ep, k _ _ (.inl rfl) e, c⟩, r⟩
  | rng lo hi => obtain ⟨t, u, v, e⟩ := x; exact ⟨t, u, v, k _ _ (.inl rfl) e⟩
  | frz ob u ih => obtain ⟨e, q⟩ := x; exact ⟨k _ _ (.inl rfl) e, ih q⟩
  | tbl ps =>
    have e : h.get? a = some { cls := .none, data := .fields ps } := x
    show h'.get? a = some { cls := .none, data := .fields ps }
    exact k a _ (.inl rfl) e
  | met f y =>
    have e : h.get? a = some (PySem.W.methodObj (.ref f) (.ref y)) := x
    show h'.get? a = some (PySem.W.methodObj (.ref f) (.ref y))
    exact k a _ (.inl rfl) e
  | ext φ => obtain ⟨p, ⟨o, e⟩, st⟩ := x; exact ⟨st _ _ p fun o q => k _ _ (.inl rfl) q, ⟨o, k _ _ (.inl rfl) e⟩, st⟩
theorem HOk.lt (x : HOk P w H h) (e : H a = some o) : a < h.objs.size := (x a o e).lt
theorem HOk.fresh (x : HOk P w H h) (e : h.objs.size ≤ a) : H a = none := by
  cases q : H a with
  | none => rfl
  | some u => exact absurd (Nat.lt_of_lt_of_le (x.lt q) e) (Nat.lt_irrefl _)
/-- every object of the heap is kept -/
theorem HOk.kept (x : HOk P w H h) (k : ∀ b u, h.get? b = some u → h'.get? b = some u) : HOk P w H h' := fun a o e =>
  (x a o e).stay (fun b u _ q => k b u q) (fun _ q => q) fun _ _ q => q
/-- a new object is laid and tracked -/
theorem HOk.laid (x : HOk P w H h) (k : ∀ b u, h.get? b = some u → h'.get? b = some u) (hp : h.objs.size ≤ a) (new : ObjOk P w (upd H a o) h' a o) : HOk P w (upd H a o) h' := fun b u e => by
  have hn := x.fresh hp
  by_cases hb : b = a
  · subst hb; rw [upd_same] at e; cases e; exact new
  · rw [upd_ne hb] at e
    exact (x b u e).stay (fun c v _ q => k c v q) (fun c q => by rw [upd_ne (ne_of_none q hn)]; exact q) fun c xs q => by rw [upd_ne (ne_of_none q hn)]; exact q
end

/-- what may be read as u: it is u, or a known u -/
def Rd (H : Hp) (a : Addr) (u : HO) : Prop := H a = some u ∨ ∃ o, H a = some (.frz o u)
theorem Rd.of {H : Hp} {a : Addr} {u : HO} (h : H a = some u) : Rd H a u := .inl h
theorem Rd.ok {P : Program} {w : World} {H : Hp} {h : Heap} {a : Addr} {u : HO} (r : Rd H a u) (x : HOk P w H h) : ObjOk P w H h a u := by
  rcases r with r | ⟨o, r⟩
  · exact x a u r
  · obtain ⟨_, q⟩ := x a _ r
    exact q
/-- what may be written -/
def Mut : Option HO → Prop
  | some (.lst _) => True
  | some (.dK _) => True
  | some (.dT _) => True
  | some (.set _ _) => True
  | some (.ins _ _ _) => True
  | some (.ext _) => True
  | _ => False
section
variable {P : Program} {w : World} {H : Hp} {h h' : Heap} {x e : Addr} {o' : HO}
/-- the object at e is changed: x itself, or the dict of the instance x -/
theorem HOk.write (ok : HOk P w H h) (mu : Mut (H x)) (he : e = x ∨ H e = some (.own x)) (k : ∀ b u, b ≠ e → h.get? b = some u → h'.get? b = some u) (heo : ∃ u, h'.get? e = some u)
    (new : ObjOk P w (upd H x o') h' x o') : HOk P w (upd H x o') h' := fun b u q => by
  have nown : ∀ c y, H c = some (.own y) → c ≠ x := fun c y r z => by subst z; rw [r] at mu; exact mu
  have ntup : ∀ c xs, H c = some (.tup xs) → c ≠ x := fun c xs r z => by subst z; rw [r] at mu; exact mu
  by_cases hb : b = x
  · subst hb; rw [upd_same] at q; cases q; exact new
  · rw [upd_ne hb] at q
    by_cases hbe : b = e
    · have q' : H b = some (.own x) := by
        rcases he with z | z
        · exact absurd (hbe.trans z) hb
        · rw [hbe]; exact z
      rw [q] at q'; cases q'
      obtain ⟨v, hv⟩ := heo
      exact ⟨v, by rw [hbe]; exact hv⟩
    · refine (ok b u q).stay (fun c v hc r => k c v ?_ r) (fun c r => by rw [upd_ne (nown c b r)]; exact r) fun c xs r => by rw [upd_ne (ntup c xs r)]; exact r
      rcases hc with rfl | hc
      · exact hbe
      · rintro rfl
        rcases he with z | z
        · exact nown c b hc z
        · rw [hc] at z; cases z; exact hb rfl
end

/-! ### kept unless tracked; of the frames at fs (the callers') the slots may change (an exception that passes writes there); of the records at ex (iterators) nothing is said -/
structure Un (fs ex : List Addr) (H H' : Hp) (h h' : Heap) : Prop where
  keep : ∀ b o, h.get? b = some o → H b = none → b ∉ fs → b ∉ ex → h'.get? b = some o
  slot : ∀ b o, h.get? b = some o → H b = none → b ∈ fs → b ∉ ex → ∃ sl, h'.get? b = some { o with slots := sl }
  free : ∀ b o, h.get? b = some o → H b = none → b ∉ ex → H' b = none
  there : ∀ b o, h.get? b = some o → b ∉ ex → ∃ o', h'.get? b = some o'
  tups : ∀ b xs, H b = some (.tup xs) → H' b = some (.tup xs)
  frzs : ∀ b o u, H b = some (.frz o u) → H' b = some (.frz o u)
  tbls : ∀ b ps, H b = some (.tbl ps) → ∃ more, H' b = some (.tbl (ps ++ more))
section
variable {fs fs' ex ex' : List Addr} {H H1 H2 : Hp} {h h1 h2 h' : Heap} {a x e : Addr} {o : HO}
theorem Un.any (u : Un fs ex H H1 h h1) {b : Addr} {ob : Obj} (q : h.get? b = some ob) (n : H b = none) (hx : b ∉ ex) : ∃ sl, h1.get? b = some { ob with slots := sl } := by
  by_cases hb : b ∈ fs
  · exact u.slot b ob q n hb hx
  · exact ⟨ob.slots, u.keep b ob q n hb hx⟩
theorem Un.trans (a : Un fs ex H H1 h h1) (b : Un fs ex H1 H2 h1 h2) : Un fs ex H H2 h h2 where
  keep := fun c ob q n hc hx => b.keep c ob (a.keep c ob q n hc hx) (a.free c ob q n hx) hc hx
  slot := fun c ob q n hc hx => by
    obtain ⟨sl, e1⟩ := a.slot c ob q n hc hx
    obtain ⟨sl', e2⟩ := b.slot c _ e1 (a.free c ob q n hx) hc hx
    exact ⟨sl', e2⟩
  free := fun c ob q n hx => by
    obtain ⟨o', e1⟩ := a.there c ob q hx
    exact b.free c o' e1 (a.free c ob q n hx) hx
  there := fun c ob q hx => by
    obtain ⟨o', e1⟩ := a.there c ob q hx
    exact b.there c o' e1 hx
  tups := fun c xs q => b.tups c xs (a.tups c xs q)
  frzs := fun c ob xs q => b.frzs c ob xs (a.frzs c ob xs q)
  tbls := fun c ps q => by
    obtain ⟨m1, e1⟩ := a.tbls c ps q
    obtain ⟨m2, e2⟩ := b.tbls c _ e1
    exact ⟨m1 ++ m2, by rw [e2, Array.append_assoc]⟩
theorem Un.kept (k : ∀ b u, h.get? b = some u → h'.get? b = some u) : Un fs ex H H h h' :=
  ⟨fun b ob q _ _ _ => k b ob q, fun b ob q _ _ _ => ⟨ob.slots, k b ob q⟩, fun _ _ _ n _ => n, fun b ob q _ => ⟨ob, k b ob q⟩, fun _ _ q => q, fun _ _ _ q => q, fun _ ps q => ⟨#[], by rw [q]; simp⟩⟩
theorem Un.refl : Un fs ex H H h h := Un.kept fun _ _ q => q
theorem Un.laid (k : ∀ b u, h.get? b = some u → h'.get? b = some u) (hp : h.objs.size ≤ a) (hn : H a = none) : Un fs ex H (upd H a o) h h' where
  keep := fun b u q _ _ _ => k b u q
  slot := fun b u q _ _ _ => ⟨u.slots, k b u q⟩
  free := fun b u q n _ => by rw [upd_ne (Nat.ne_of_lt (Nat.lt_of_lt_of_le (Heap.lt_size q) hp))]; exact n
  there := fun b u q _ => ⟨u, k b u q⟩
  tups := fun b xs q => by rw [upd_ne (ne_of_none q hn)]; exact q
  frzs := fun b u xs q => by rw [upd_ne (ne_of_none q hn)]; exact q
  tbls := fun b ps q => ⟨#[], by rw [upd_ne (ne_of_none q hn), q]; simp⟩
theorem Un.write (mu : Mut (H x)) (he : e = x ∨ H e = some (.own x)) (k : ∀ b u, b ≠ e → h.get? b = some u → h'.get? b = some u) (heo : ∃ u, h'.get? e = some u) : Un fs ex H (upd H x o) h h' := by
  have hx : ∀ b, H b = none → b ≠ x := fun b n z => by subst z; rw [n] at mu; exact mu
  have hb : ∀ b, H b = none → b ≠ e := fun b n z => by
    subst z
    rcases he with r | r
    · exact hx b n r
    · rw [n] at r; cases r
  have hm : ∀ b u, H b = some u → ¬ Mut (some u) → b ≠ x := fun b u q nm z => by subst z; rw [q] at mu; exact nm mu
  refine ⟨fun b u q n _ _ => k b u (hb b n) q, fun b u q n _ _ => ⟨u.slots, k b u (hb b n) q⟩, fun b u q n _ => by rw [upd_ne (hx b n)]; exact n, fun b u q _ => ?_,
    fun b xs q => by rw [upd_ne (hm b _ q fun z => z)]; exact q, fun b u xs q => by rw [upd_ne (hm b _ q fun z => z)]; exact q, fun b ps q => ⟨#[], by rw [upd_ne (hm b _ q fun z => z), q]; simp⟩⟩
  by_cases hbe : b = e
  · subst hbe; exact heo
  · exact ⟨u, k b u hbe q⟩
theorem Un.mono (u : Un fs ex H H1 h h1) (hs : ∀ b ∈ fs, b ∈ fs') (hx : ∀ b ∈ ex, b ∈ ex') : Un fs' ex' H H1 h h1 :=
  ⟨fun b ob q n hb he => u.keep b ob q n (fun z => hb (hs b z)) fun z => he (hx b z), fun _ _ q n _ he => u.any q n fun z => he (hx _ z), fun b ob q n he => u.free b ob q n fun z => he (hx b z), fun b ob q he => u.there b ob q fun z => he (hx b z), u.tups, u.frzs, u.tbls⟩
end

/-! ### the heap without what is tracked -/
def trk (h : Heap) (H : Hp) : List Addr := (List.range h.objs.size).filter fun a => (H a).isSome
def hidT (h : Heap) (H : Hp) : Heap := PySem.W.hideAll h (trk h H)
theorem hidT_size (h : Heap) (H : Hp) : (hidT h H).objs.size = h.objs.size := PySem.W.hideAll_size _ _
theorem hidT_get {h : Heap} {H : Hp} {b : Addr} {o : Obj} (e : h.get? b = some o) (n : H b = none) : (hidT h H).get? b = some o :=
  PySem.W.hideAll_get _ e fun hm => by
    have q : (H b).isSome = true := (List.mem_filter.mp hm).2
    rw [n] at q; simp at q
theorem of_hidT {h : Heap} {H : Hp} {b : Addr} {o : Obj} (e : (hidT h H).get? b = some o) : h.get? b = some o ∧ H b = none := by
  have e' : h.get? b = some o := PySem.W.of_hideAll (trk h H) e
  refine ⟨e', ?_⟩
  cases q : H b with
  | none => rfl
  | some x =>
    have hm : b ∈ trk h H := List.mem_filter.mpr ⟨List.mem_range.mpr (Heap.lt_size e'), by simp [q]⟩
    have z : (hidT h H).get? b = none := PySem.W.hideAll_none (trk h H) hm
    rw [z] at e; cases e

/-! ### OpenK's ledger, filled with every new object but one -/
def allNews (g h : Heap) (L : Addr) : List (Addr × Obj) := (List.range h.objs.size).filterMap fun a => if a = L ∨ (g.get? a).isSome = true then none else (h.get? a).map fun o => (a, o)
theorem mem_allNews {g h : Heap} {L a : Addr} {o : Obj} (h1 : a ≠ L) (h2 : g.get? a = none) (h3 : h.get? a = some o) : (a, o) ∈ allNews g h L :=
  List.mem_filterMap.mpr ⟨a, List.mem_range.mpr (Heap.lt_size h3), by simp [h1, h2, h3]⟩
theorem of_mem_allNews {g h : Heap} {L : Addr} {p : Addr × Obj} (hp : p ∈ allNews g h L) : p.1 ≠ L ∧ g.get? p.1 = none ∧ h.get? p.1 = some p.2 := by
  obtain ⟨b, _, e⟩ := List.mem_filterMap.mp hp
  split at e
  · cases e
  · rename_i hn
    cases q : h.get? b with
    | none => rw [q] at e; simp at e
    | some u =>
      rw [q] at e
      simp only [Option.map_some, Option.some.injEq] at e
      subst e
      refine ⟨fun z => hn (.inl z), ?_, q⟩
      show g.get? b = none
      cases r : g.get? b with
      | none => rfl
      | some v => exact (hn (.inr (by simp [r]))).elim
def rest (g h : Heap) (L d : Addr) : List (Addr × Obj) := (allNews g h L).filter fun p => decide (p.1 ≠ d)
theorem rest_ne {g h : Heap} {L d : Addr} : ∀ p ∈ rest g h L d, p.1 ≠ d := fun p hp => of_decide_eq_true (List.mem_filter.mp hp).2
theorem mem_rest {g h : Heap} {L d a : Addr} {o : Obj} (h1 : a ≠ L) (h2 : g.get? a = none) (h3 : h.get? a = some o) (h4 : a ≠ d) : (a, o) ∈ rest g h L d :=
  List.mem_filter.mpr ⟨mem_allNews h1 h2 h3, decide_eq_true h4⟩
theorem news_all {g h : Heap} {L : Addr} : News g L h (allNews g h L) := fun p hp => let ⟨a, b, c⟩ := of_mem_allNews hp; ⟨c, a, b⟩
theorem news_at {g h : Heap} {L d : Addr} {o : Obj} (h1 : d ≠ L) (h2 : g.get? d = none) (h3 : h.get? d = some o) : News g L h ((d, o) :: rest g h L d) := fun p hp => by
  rcases List.mem_cons.mp hp with rfl | hp
  · exact ⟨h3, h1, h2⟩
  · exact news_all p (List.mem_filter.mp hp).1
/-- behind a rule that changed d alone: all else but the frame is kept -/
theorem kept_of_news {g h h' : Heap} {L d : Addr} {m : Str → Option Value} (k : ∀ b o, g.get? b = some o → h.get? b = some o) (F : Fr g L h' m) (N : News g L h' (rest g h L d)) :
    ∀ b o, b ≠ L → b ≠ d → h.get? b = some o → h'.get? b = some o := fun b o h1 h2 e => by
  cases q : g.get? b with
  | some u =>
    have := k b u q
    rw [e] at this; cases this
    exact F.keep b _ q
  | none => exact (N (b, o) (mem_rest h1 q e h2)).1
end L2

namespace L2
open PySem PySem.Spec PyProof.Rows

/-- the module's facts, over the base: the heap at the law's entry without what is tracked there -/
structure Mod (K : PySem.W.Frag) (mg : Str → Option Value) (base : Heap) : Prop where
  kin : K.In base
  glob : base.Ns mainGlobals mg
  blt : ∃ mb, base.Ns builtinsNs mb ∧ ∀ x : Str, x ≠ "__name__" → mb x = bootBuiltins x
  nolimit : base.NoLimit

/-- the context: a def's body (or a comprehension's block) running. base: fixed through the whole law; s₀, H₀: the entry; outer: the frames whose slots others may change (a def's callers); stack: all frames that run;
   ex: iterators that were made ahead of the entry and are walked here (a comprehension's); fn: the names whose cells were made at the entry (a def: all; a comprehension's block: its own); calm: not within an except suite; pn: pins that every state bears; xe: what is wanted of an exception that leaves the code -/
structure Cx where
  prog : Program
  w : World
  K : PySem.W.Frag
  mg : Str → Option Value
  base : Heap
  A : Around
  N : List Str
  s₀ : Shared
  H₀ : Hp
  env : Env
  outer : List Env
  stack : List Env
  ex : List Addr
  fn : Str → Bool
  calm : Bool
  pn : List (Addr × Obj)
  xe : Value → Shared → Prop
/-- the callers' frames -/
def frs (l : List Env) : List Addr := l.filterMap (·.frame)
abbrev Cx.fs (X : Cx) : List Addr := frs X.outer

def Vis (sc : Scope) (x : Str) : Prop := sc.names.lookup x = some .local ∨ sc.names.lookup x = some .cell ∨ sc.names.lookup x = some .free
def Loc (sc : Scope) (x : Str) : Prop := sc.names.lookup x = some .local ∨ sc.names.lookup x = some .cell
def Look (env : Env) (h : Heap) (m : Str → Option Value) (x : Str) (u : Value) : Prop :=
  (env.kindOf x = some .local ∧ m x = some u) ∨ ((env.kindOf x = some .cell ∨ env.kindOf x = some .free) ∧ ∃ c, env.cells.lookup x = some c ∧ h.IsCell c (some u))

structure Cx.Ok (X : Cx) : Prop where
  mod : Mod X.K X.mg X.base
  kind : X.env.scope.kind = .function
  glob : X.env.globals = mainGlobals
  blt : X.env.builtins = builtinsNs
  above : X.s₀.heap.objs.size ≤ X.env.locals
  inj : ∀ x y c, X.env.cells.lookup x = some c → X.env.cells.lookup y = some c → x = y
  has : ∀ x, (X.env.kindOf x = some .cell ∨ X.env.kindOf x = some .free) → ∃ c, X.env.cells.lookup x = some c
  cab : ∀ x c, X.fn x = true → X.env.cells.lookup x = some c → X.s₀.heap.objs.size ≤ c
  hd : X.calm = true → X.A.handled = none
  frames : X.A.frames = some X.stack
  stk : X.stack = X.outer ∨ (X.stack = X.env :: X.outer ∧ X.env.frame = some X.env.locals)
  exf : ∀ b ∈ X.ex, b ≠ X.env.locals ∧ ∀ x c, X.env.cells.lookup x = some c → c ≠ b
  bs : ∀ b o, X.base.get? b = some o → X.s₀.heap.get? b = some o ∧ X.H₀ b = none
  bsz : X.base.objs.size ≤ X.s₀.heap.objs.size
  noex : ∀ b o, X.base.get? b = some o → b ∉ X.ex
  exfs : ∀ b ∈ X.ex, b ∉ X.fs
  funs : X.s₀.heap.FunFrames X.base X.outer
  frf : ∀ b ∈ X.fs, X.H₀ b = none

structure Inv (X : Cx) (pins : List (Addr × Obj)) (σ : List (Option V)) (H : Hp) (s : Shared) : Prop where
  ok : X.Ok
  os : s.os = X.s₀.os
  bare : AllBare s.gens
  base : Un X.fs X.ex X.H₀ H X.s₀.heap s.heap
  loc : ∃ m, s.heap.Ns X.env.locals m ∧ ∀ (i : Nat) (x : Str) (v : V), X.N[i]? = some x → σ[i]? = some (some v) → Vis X.env.scope x → ∃ u, RelV v u ∧ Look X.env s.heap m x u
  cell : ∀ x c, X.env.cells.lookup x = some c → ∃ v, s.heap.IsCell c v
  free : H X.env.locals = none
  freeC : ∀ x c, X.env.cells.lookup x = some c → H c = none
  pin : ∀ p ∈ X.pn ++ pins, s.heap.get? p.1 = some p.2 ∧ H p.1 = none ∧ p.1 ≠ X.env.locals ∧ p.1 ∉ X.fs ∧ ∀ v, p.2.data ≠ .cell v
  hok : HOk X.prog X.w H s.heap
  len : σ.length = X.N.length

section
variable {X : Cx} {pins : List (Addr × Obj)} {σ : List (Option V)} {H H' : Hp} {s : Shared} {h' : Heap}

theorem Cx.Ok.nofr (ok : X.Ok) {b : Addr} {o : Obj} (e : X.base.get? b = some o) : b ∉ X.fs := fun hb => by
  have := (ok.funs.mem hb).1
  rw [e] at this; cases this
theorem Inv.bs (I : Inv X pins σ H s) : ∀ b o, X.base.get? b = some o → s.heap.get? b = some o ∧ H b = none := fun b o e =>
  ⟨I.base.keep b o (I.ok.bs b o e).1 (I.ok.bs b o e).2 (I.ok.nofr e) (I.ok.noex b o e), I.base.free b o (I.ok.bs b o e).1 (I.ok.bs b o e).2 (I.ok.noex b o e)⟩
theorem Inv.bk (I : Inv X pins σ H s) : ∀ b o, X.base.get? b = some o → s.heap.get? b = some o := fun b o e => (I.bs b o e).1
theorem Inv.mod (I : Inv X pins σ H s) : Mod X.K X.mg X.base := I.ok.mod
theorem Inv.kIn (I : Inv X pins σ H s) : X.K.In s.heap := I.ok.mod.kin.keeps I.bk
theorem Inv.nolimit (I : Inv X pins σ H s) : s.heap.NoLimit := I.ok.mod.nolimit.keeps I.bk
/-- the frame over the base: for OpenK's rules (K.In X.base is I.mod.kin) -/
theorem Inv.fr (I : Inv X pins σ H s) : ∃ m, Fr X.base X.env.locals s.heap m :=
  let ⟨m, hn, _⟩ := I.loc
  ⟨m, hn, I.bk, Nat.le_trans I.ok.bsz I.ok.above⟩
theorem Inv.lt (I : Inv X pins σ H s) : X.env.locals < s.heap.objs.size := let ⟨_, hn, _⟩ := I.loc; hn.lt
theorem Inv.sz (I : Inv X pins σ H s) : X.s₀.heap.objs.size ≤ s.heap.objs.size := Nat.le_trans I.ok.above (Nat.le_of_lt I.lt)
theorem Inv.nofs (I : Inv X pins σ H s) {a : Addr} (h : s.heap.objs.size ≤ a) : a ∉ X.fs := fun hb => by
  obtain ⟨_, o, ho, _⟩ := I.ok.funs.mem hb
  exact absurd (Nat.lt_of_lt_of_le (Heap.lt_size ho) (Nat.le_trans I.sz h)) (Nat.lt_irrefl _)
theorem Inv.cne (I : Inv X pins σ H s) : ∀ x c, X.env.cells.lookup x = some c → c ≠ X.env.locals := fun x c e z => by
  obtain ⟨v, o, ho, hd⟩ := I.cell x c e
  obtain ⟨m, ⟨o', es, ep, ho', hd', _⟩, _⟩ := I.loc
  rw [z, ho'] at ho; cases ho; rw [hd'] at hd; cases hd
theorem Inv.funs (I : Inv X pins σ H s) : s.heap.FunFrames X.base X.outer := by
  have all : ∀ (l : List Env), (∀ b ∈ frs l, b ∈ X.fs) → X.s₀.heap.FunFrames X.base l → s.heap.FunFrames X.base l := by
    intro l
    induction l with
    | nil => intro _ _; trivial
    | cons env r ih =>
      intro hs hl
      obtain ⟨hk, ⟨L, o, hf, hn, ho, hd⟩, hr⟩ := hl
      have hL : L ∈ X.fs := hs L (by unfold frs; rw [List.filterMap_cons, hf]; exact List.mem_cons_self)
      obtain ⟨sl, e⟩ := I.base.slot L o ho (I.ok.frf L hL) hL fun z => I.ok.exfs L z hL
      exact ⟨hk, ⟨L, _, hf, hn, e, hd⟩, ih (fun b hb => hs b (by unfold frs; rw [List.filterMap_cons, hf]; exact List.mem_cons_of_mem _ hb)) hr⟩
  exact all X.outer (fun _ hb => hb) I.ok.funs

/-- the frames that run, for a call -/
theorem Inv.stack (I : Inv X pins σ H s) : s.heap.FunFrames X.base X.stack := by
  rcases I.ok.stk with e | ⟨e, hf⟩
  · rw [e]; exact I.funs
  · rw [e]
    obtain ⟨m, hn, _⟩ := I.loc
    refine .cons (by rw [I.ok.kind]; decide) hf hn ?_ I.funs
    exact Heap.get?_none_of_le (Nat.le_trans I.ok.bsz I.ok.above)
theorem Inv.stkSub (I : Inv X pins σ H s) : ∀ b ∈ frs X.stack, b ∈ X.env.locals :: X.fs := fun b hb => by
  rcases I.ok.stk with e | ⟨e, hf⟩
  · rw [e] at hb; exact List.mem_cons_of_mem _ hb
  · rw [e] at hb
    unfold frs at hb
    rw [List.filterMap_cons, hf] at hb
    exact hb
theorem Inv.stkFree (I : Inv X pins σ H s) : ∀ b ∈ frs X.stack, H b = none := fun b hb => by
  rcases List.mem_cons.mp (I.stkSub b hb) with e | hb
  · rw [e]; exact I.free
  · obtain ⟨_, o, ho, _⟩ := I.ok.funs.mem hb
    exact I.base.free b o ho (I.ok.frf b hb) fun z => I.ok.exfs b z hb

/-- THE STEP: the untracked objects but the frame and the records at ch are kept (the callers' frames up to slots), the frame's map is kept, the new abstract heap is held -/
theorem Inv.step {g' : Array GenState} {t' : Nat} {d' : Drawn} {ch : List Addr} (I : Inv X pins σ H s)
    (hch : ∀ b ∈ ch, (b ∈ X.ex ∨ X.s₀.heap.objs.size ≤ b) ∧ b ≠ X.env.locals ∧ (∀ x c, X.env.cells.lookup x = some c → c ≠ b) ∧ ∀ p ∈ X.pn ++ pins, p.1 ≠ b)
    (keep : ∀ b o, b ≠ X.env.locals → b ∉ X.fs → b ∉ ch → s.heap.get? b = some o → H b = none → h'.get? b = some o)
    (slot : ∀ b o, b ≠ X.env.locals → b ∈ X.fs → b ∉ ch → s.heap.get? b = some o → H b = none → ∃ sl, h'.get? b = some { o with slots := sl }) (free : ∀ b o, b ∉ ch → s.heap.get? b = some o → H b = none → H' b = none)
    (there : ∀ b o, b ∉ ch → s.heap.get? b = some o → ∃ o', h'.get? b = some o')
    (tups : ∀ b xs, H b = some (.tup xs) → H' b = some (.tup xs)) (frzs : ∀ b o u, H b = some (.frz o u) → H' b = some (.frz o u)) (tbls : ∀ b ps, H b = some (.tbl ps) → ∃ more, H' b = some (.tbl (ps ++ more)))
    (ns : ∀ m, s.heap.Ns X.env.locals m → h'.Ns X.env.locals m) (hok : HOk X.prog X.w H' h') (hg : AllBare g') :
    Inv X pins σ H' { s with heap := h', gens := g', drawn := d', toks := t' } := by
  have neL : ∀ b o, X.s₀.heap.get? b = some o → b ≠ X.env.locals := fun b o e => Nat.ne_of_lt (Nat.lt_of_lt_of_le (Heap.lt_size e) I.ok.above)
  have neC : ∀ b o, X.s₀.heap.get? b = some o → b ∉ X.ex → b ∉ ch := fun b o e hx hb => by
    rcases (hch b hb).1 with z | z
    · exact hx z
    · exact absurd (Nat.lt_of_lt_of_le (Heap.lt_size e) z) (Nat.lt_irrefl _)
  have cellK : ∀ x c, X.env.cells.lookup x = some c → ∀ v, s.heap.IsCell c v → h'.IsCell c v := fun x c e v ⟨o, ho, hd⟩ => by
    have nch : c ∉ ch := fun z => (hch c z).2.2.1 x c e rfl
    by_cases hc : c ∈ X.fs
    · obtain ⟨sl, q⟩ := slot c o (I.cne x c e) hc nch ho (I.freeC x c e)
      exact ⟨_, q, hd⟩
    · exact ⟨o, keep c o (I.cne x c e) hc nch ho (I.freeC x c e), hd⟩
  refine ⟨I.ok, I.os, hg, ⟨fun b o e n hb hx => ?_, fun b o e n hb hx => ?_, fun b o e n hx => ?_, fun b o e hx => ?_, fun b xs e => tups b xs (I.base.tups b xs e), fun b o xs e => frzs b o xs (I.base.frzs b o xs e), fun b ps e => ?_⟩, ?_, fun x c e => ?_, ?_, fun x c e => ?_, fun p hp => ?_, hok, I.len⟩
  · exact keep b o (neL b o e) hb (neC b o e hx) (I.base.keep b o e n hb hx) (I.base.free b o e n hx)
  · obtain ⟨sl, e1⟩ := I.base.slot b o e n hb hx
    obtain ⟨sl', e2⟩ := slot b _ (neL b o e) hb (neC b o e hx) e1 (I.base.free b o e n hx)
    exact ⟨sl', e2⟩
  · obtain ⟨o', e1⟩ := I.base.there b o e hx
    exact free b o' (neC b o e hx) e1 (I.base.free b o e n hx)
  · obtain ⟨o', e1⟩ := I.base.there b o e hx
    exact there b o' (neC b o e hx) e1
  · obtain ⟨m1, e1⟩ := I.base.tbls b ps e
    obtain ⟨m2, e2⟩ := tbls b _ e1
    exact ⟨m1 ++ m2, by rw [e2, Array.append_assoc]⟩
  · obtain ⟨m, hn, hl⟩ := I.loc
    refine ⟨m, ns m hn, fun i x v e1 e2 e3 => ?_⟩
    obtain ⟨u, r, l⟩ := hl i x v e1 e2 e3
    refine ⟨u, r, ?_⟩
    rcases l with l | ⟨k, c, e, z⟩
    · exact .inl l
    · exact .inr ⟨k, c, e, cellK x c e _ z⟩
  · obtain ⟨v, z⟩ := I.cell x c e
    exact ⟨v, cellK x c e v z⟩
  · obtain ⟨m, ⟨o, _, _, ho, _⟩, _⟩ := I.loc
    exact free _ o (fun z => (hch _ z).2.1 rfl) ho I.free
  · obtain ⟨v, o, ho, hd⟩ := I.cell x c e
    exact free c o (fun z => (hch c z).2.2.1 x c e rfl) ho (I.freeC x c e)
  · obtain ⟨e, n, ne, nf, d⟩ := I.pin p hp
    have nch : p.1 ∉ ch := fun z => (hch p.1 z).2.2.2 p hp rfl
    exact ⟨keep p.1 p.2 ne nf nch e n, free p.1 p.2 nch e n, ne, nf, d⟩
/-- .. where the frame's own object is kept too -/
theorem Inv.un {t' : Nat} (I : Inv X pins σ H s) (u : Un X.fs [] H H' s.heap h') (hok : HOk X.prog X.w H' h') : Inv X pins σ H' { s with heap := h', toks := t' } := by
  obtain ⟨m, ⟨o, es, ep, ho, r⟩, _⟩ := id I.loc
  obtain ⟨sl, hL⟩ := u.any ho I.free (by simp)
  exact I.step (g' := s.gens) (d' := s.drawn) (ch := []) (fun _ z => nomatch z) (fun b o _ hb _ e n => u.keep b o e n hb (by simp)) (fun b o _ hb _ e n => u.slot b o e n hb (by simp)) (fun b o _ e n => u.free b o e n (by simp)) (fun b o _ e => u.there b o e (by simp)) u.tups u.frzs u.tbls (fun m' hm => by
    obtain ⟨o', es', ep', ho', r'⟩ := hm
    rw [ho] at ho'; cases ho'
    exact ⟨_, es', ep', hL, r'⟩) hok I.bare
/-- behind a call (or a comprehension's block): the slots of this frame may have changed too, the records at ch may have turned -/
theorem Inv.call {g' : Array GenState} {t' : Nat} {d' : Drawn} {ch : List Addr} (I : Inv X pins σ H s) (u : Un (frs X.stack) ch H H' s.heap h') (hok : HOk X.prog X.w H' h') (hg : AllBare g')
    (hch : ∀ b ∈ ch, (b ∈ X.ex ∨ X.s₀.heap.objs.size ≤ b) ∧ b ≠ X.env.locals ∧ (∀ x c, X.env.cells.lookup x = some c → c ≠ b) ∧ ∀ p ∈ X.pn ++ pins, p.1 ≠ b) :
    Inv X pins σ H' { s with heap := h', gens := g', drawn := d', toks := t' } := by
  obtain ⟨m, ⟨o, es, ep, ho, r⟩, _⟩ := id I.loc
  obtain ⟨sl, hL⟩ := u.any ho I.free fun z => (hch _ z).2.1 rfl
  exact I.step (ch := ch) hch (fun b o hL hb hc e n => u.keep b o e n (fun z => (List.mem_cons.mp (I.stkSub b z)).elim hL hb) hc) (fun b o _ _ hc e n => u.any e n hc) (fun b o hc e n => u.free b o e n hc) (fun b o hc e => u.there b o e hc) u.tups u.frzs u.tbls (fun m' hm => by
    obtain ⟨o', es', ep', ho', r'⟩ := hm
    rw [ho] at ho'; cases ho'
    exact ⟨_, es', ep', hL, r'⟩) hok hg
/-- an untracked record of ours (an iterator) has turned -/
theorem Inv.turned {t' : Nat} {it : Addr} (I : Inv X pins σ H s) (k : ∀ b o, b ≠ it → s.heap.get? b = some o → h'.get? b = some o) (hn : H it = none) (hL : it ≠ X.env.locals)
    (h1 : it ∈ X.ex ∨ X.s₀.heap.objs.size ≤ it) (h2 : ∀ x c, X.env.cells.lookup x = some c → c ≠ it) (h3 : ∀ p ∈ X.pn ++ pins, p.1 ≠ it) : Inv X pins σ H { s with heap := h', toks := t' } := by
  have nit : ∀ b u, H b = some u → b ≠ it := fun b u e z => by rw [z, hn] at e; cases e
  refine I.step (g' := s.gens) (d' := s.drawn) (ch := [it]) (fun b hb => ?_) (fun b o _ _ hc e _ => k b o (fun z => hc (by simp [z])) e) (fun b o _ _ hc e _ => ⟨o.slots, k b o (fun z => hc (by simp [z])) e⟩) (fun _ _ _ _ n => n)
    (fun b o hc e => ⟨o, k b o (fun z => hc (by simp [z])) e⟩) (fun _ _ e => e) (fun _ _ _ e => e) (fun b ps e => ⟨#[], by rw [e]; simp⟩) (fun m hm => ?_) (fun b u e => ?_) I.bare
  · have e : b = it := by simpa using hb
    subst e
    exact ⟨h1, hL, h2, h3⟩
  · obtain ⟨o, es, ep, ho, r⟩ := hm
    exact ⟨o, es, ep, k _ o (Ne.symm hL) ho, r⟩
  · refine (I.hok b u e).stay (fun c v hc q => k c v ?_ q) (fun _ q => q) fun _ _ q => q
    rcases hc with z | z
    · rw [z]; exact nit b u e
    · exact nit c _ z
theorem Inv.tok (I : Inv X pins σ H s) (t : Nat) : Inv X pins σ H { s with toks := t } := I.un (h' := s.heap) (t' := t) Un.refl I.hok
/-- all objects kept -/
theorem Inv.kept {t' : Nat} (I : Inv X pins σ H s) (k : ∀ b u, s.heap.get? b = some u → h'.get? b = some u) : Inv X pins σ H { s with heap := h', toks := t' } := I.un (Un.kept k) (I.hok.kept k)
/-- a new object laid and tracked -/
theorem Inv.laid {a : Addr} {o : HO} {t' : Nat} (I : Inv X pins σ H s) (k : ∀ b u, s.heap.get? b = some u → h'.get? b = some u) (hp : s.heap.objs.size ≤ a) (new : ObjOk X.prog X.w (upd H a o) h' a o) :
    Inv X pins σ (upd H a o) { s with heap := h', toks := t' } := I.un (Un.laid k hp (I.hok.fresh hp)) (I.hok.laid k hp new)
/-- an object written -/
theorem Inv.write {x e : Addr} {o : HO} {t' : Nat} (I : Inv X pins σ H s) (mu : Mut (H x)) (he : e = x ∨ H e = some (.own x)) (k : ∀ b u, b ≠ e → s.heap.get? b = some u → h'.get? b = some u) (heo : ∃ u, h'.get? e = some u)
    (new : ObjOk X.prog X.w (upd H x o) h' x o) : Inv X pins σ (upd H x o) { s with heap := h', toks := t' } := I.un (Un.write mu he k heo) (I.hok.write mu he k heo new)
/-- forgetting slots, pins -/
theorem Inv.weak {σ' : List (Option V)} (I : Inv X pins σ H s) (hl : σ'.length = σ.length) (w : ∀ (i : Nat) v, σ'[i]? = some (some v) → σ[i]? = some (some v)) : Inv X pins σ' H s :=
  ⟨I.ok, I.os, I.bare, I.base, let ⟨m, hn, hl'⟩ := I.loc; ⟨m, hn, fun i x v e1 e2 e3 => hl' i x v e1 (w i v e2) e3⟩, I.cell, I.free, I.freeC, I.pin, I.hok, hl.trans I.len⟩
theorem Inv.pins_of {pins' : List (Addr × Obj)} (I : Inv X pins σ H s) (h : ∀ p ∈ pins', s.heap.get? p.1 = some p.2 ∧ H p.1 = none ∧ p.1 ≠ X.env.locals ∧ p.1 ∉ X.fs ∧ ∀ v, p.2.data ≠ .cell v) : Inv X pins' σ H s :=
  ⟨I.ok, I.os, I.bare, I.base, I.loc, I.cell, I.free, I.freeC, fun p hp => (List.mem_append.mp hp).elim (fun z => I.pin p (List.mem_append_left _ z)) (h p), I.hok, I.len⟩

theorem nodup_ix {N : List Str} (hN : N.Nodup) {i j : Nat} {x : Str} (a : N[i]? = some x) (b : N[j]? = some x) : i = j := by
  obtain ⟨h1, e1⟩ := List.getElem?_eq_some_iff.mp a
  obtain ⟨h2, e2⟩ := List.getElem?_eq_some_iff.mp b
  exact (List.getElem_inj hN).mp (e1.trans e2.symm)

/-- a name is stored; what changed -/
theorem store_ok2 {M : Model} {A : Around} {E : Value → Shared → Prop} {i : Nat} {x : Str} {v : V} {u : Value} {Q : Unit → Shared → Prop} (I : Inv X pins σ H s) (hN : X.N.Nodup) (hi : X.N[i]? = some x) (hx : Loc X.env.scope x) (r : RelV v u)
    (h : ∀ s', Inv X pins (σ.set i (some v)) H s' → (∃ a, Heap.SameBut a s.heap s'.heap ∧ (a = X.env.locals ∨ X.env.cells.lookup x = some a)) → Q () s') (hf : X.fn x = true ∨ X.env.scope.names.lookup x = some .local := by first | exact .inl rfl | exact .inr rfl | assumption) : wpAny M A (storeName X.env x u) Q E s := by
  obtain ⟨m, hn, hl⟩ := id I.loc
  have hcls : (X.env.scope.kind == .class || (X.env.scope.kind == .module && X.env.locals != X.env.globals)) = false := by rw [I.ok.kind]; rfl
  have hiσ : i < σ.length := by rw [I.len]; exact (List.getElem?_eq_some_iff.mp hi).1
  have cne := I.cne
  have tracked : ∀ {a : Addr} {h' : Heap}, (∃ o, s.heap.get? a = some o ∧ H a = none) → Heap.SameBut a s.heap h' → HOk X.prog X.w H h' := fun {a h'} ha hs b ob e => by
    obtain ⟨_, _, hfree⟩ := ha
    refine (I.hok b ob e).stay (fun c w' hc q => (hs.2 c ?_).trans q) (fun _ q => q) fun _ _ q => q
    rintro rfl
    rcases hc with rfl | hc
    · rw [hfree] at e; cases e
    · rw [hfree] at hc; cases hc
  rcases hx with hk | hk
  · refine wpAny_storeName_local hk hn (fun h' hn' hs => ?_) hcls
    obtain ⟨oL, _, _, hoL, _⟩ := id hn
    refine h _ ⟨I.ok, I.os, I.bare, ⟨fun b o e n hb hx => ?_, fun b o e n hb hx => ?_, I.base.free, fun b o e hx => ?_, I.base.tups, I.base.frzs, I.base.tbls⟩, ⟨_, hn', fun j y v' e1 e2 e3 => ?_⟩, fun y c e => ?_, I.free, I.freeC, fun p hp => ?_, tracked ⟨oL, hoL, I.free⟩ hs, by simpa using I.len⟩ ⟨_, hs, .inl rfl⟩
    · exact (hs.2 b (Nat.ne_of_lt (Nat.lt_of_lt_of_le (Heap.lt_size e) I.ok.above))).trans (I.base.keep b o e n hb hx)
    · obtain ⟨sl, e1⟩ := I.base.slot b o e n hb hx
      exact ⟨sl, (hs.2 b (Nat.ne_of_lt (Nat.lt_of_lt_of_le (Heap.lt_size e) I.ok.above))).trans e1⟩
    · obtain ⟨o', e1⟩ := I.base.there b o e hx
      exact ⟨o', (hs.2 b (Nat.ne_of_lt (Nat.lt_of_lt_of_le (Heap.lt_size e) I.ok.above))).trans e1⟩
    · by_cases hj : j = i
      · subst hj
        rw [hi] at e1; cases e1
        rw [List.getElem?_set_self hiσ] at e2
        cases e2
        exact ⟨u, r, .inl ⟨hk, by simp⟩⟩
      · rw [List.getElem?_set_ne (Ne.symm hj)] at e2
        obtain ⟨u', r', q⟩ := hl j y v' e1 e2 e3
        refine ⟨u', r', ?_⟩
        rcases q with ⟨k, e⟩ | ⟨k, c, e, z⟩
        · refine .inl ⟨k, ?_⟩
          have : y ≠ x := fun e => hj (nodup_ix hN e1 (e ▸ hi))
          simp [this, e]
        · exact .inr ⟨k, c, e, z.sameBut hs (cne y c e)⟩
    · obtain ⟨w', z⟩ := I.cell y c e
      exact ⟨w', z.sameBut hs (cne y c e)⟩
    · obtain ⟨e, n, ne, nf, d⟩ := I.pin p hp
      exact ⟨(hs.2 p.1 ne).trans e, n, ne, nf, d⟩
  · have hfn : X.fn x = true := by
      rcases hf with z | z
      · exact z
      · rw [z] at hk; cases hk
    obtain ⟨c, hc⟩ := I.ok.has x (.inl hk)
    obtain ⟨w', z⟩ := I.cell x c hc
    refine wpAny_storeName_cell I.ok.kind hk hc z (fun h' hc' hs => ?_)
    obtain ⟨oc, hoc, hocd⟩ := id z
    refine h { s with heap := h' } ⟨I.ok, I.os, I.bare, ⟨fun b o e n hb hx => ?_, fun b o e n hb hx => ?_, I.base.free, fun b o e hx => ?_, I.base.tups, I.base.frzs, I.base.tbls⟩, ⟨m, hn.sameBut hs (Ne.symm (cne x c hc)), fun j y v' e1 e2 e3 => ?_⟩, fun y c' e => ?_, I.free, I.freeC, fun p hp => ?_, tracked ⟨oc, hoc, I.freeC x c hc⟩ hs, by simpa using I.len⟩ ⟨c, hs, .inr hc⟩
    · exact (hs.2 b (Nat.ne_of_lt (Nat.lt_of_lt_of_le (Heap.lt_size e) (I.ok.cab x c hfn hc)))).trans (I.base.keep b o e n hb hx)
    · obtain ⟨sl, e1⟩ := I.base.slot b o e n hb hx
      exact ⟨sl, (hs.2 b (Nat.ne_of_lt (Nat.lt_of_lt_of_le (Heap.lt_size e) (I.ok.cab x c hfn hc)))).trans e1⟩
    · obtain ⟨o', e1⟩ := I.base.there b o e hx
      exact ⟨o', (hs.2 b (Nat.ne_of_lt (Nat.lt_of_lt_of_le (Heap.lt_size e) (I.ok.cab x c hfn hc)))).trans e1⟩
    · by_cases hj : j = i
      · subst hj
        rw [hi] at e1; cases e1
        rw [List.getElem?_set_self hiσ] at e2
        cases e2
        exact ⟨u, r, .inr ⟨.inl hk, c, hc, hc'⟩⟩
      · rw [List.getElem?_set_ne (Ne.symm hj)] at e2
        obtain ⟨u', r', q⟩ := hl j y v' e1 e2 e3
        refine ⟨u', r', ?_⟩
        rcases q with q | ⟨k, c', e, z'⟩
        · exact .inl q
        · refine .inr ⟨k, c', e, z'.sameBut hs ?_⟩
          rintro rfl
          exact hj (nodup_ix hN e1 (I.ok.inj _ _ _ e hc ▸ hi))
    · by_cases hcc : c' = c
      · subst hcc; exact ⟨_, hc'⟩
      · obtain ⟨w2, z2⟩ := I.cell y c' e
        exact ⟨w2, z2.sameBut hs hcc⟩
    · obtain ⟨e, n, ne, nf, d⟩ := I.pin p hp
      refine ⟨(hs.2 p.1 ?_).trans e, n, ne, nf, d⟩
      intro q
      rw [q, hoc] at e
      have q' : oc = p.2 := Option.some.inj e
      exact d w' (by rw [← q']; exact hocd)
theorem store_ok {M : Model} {A : Around} {E : Value → Shared → Prop} {i : Nat} {x : Str} {v : V} {u : Value} {Q : Unit → Shared → Prop} (I : Inv X pins σ H s) (hN : X.N.Nodup) (hi : X.N[i]? = some x) (hx : Loc X.env.scope x) (r : RelV v u)
    (h : ∀ s', Inv X pins (σ.set i (some v)) H s' → Q () s') (hf : X.fn x = true ∨ X.env.scope.names.lookup x = some .local := by first | exact .inl rfl | exact .inr rfl | assumption) : wpAny M A (storeName X.env x u) Q E s :=
  store_ok2 I hN hi hx r (fun s' I' _ => h s' I') hf
/-- behind a call or a block, the state as it is -/
theorem Inv.call' {s' : Shared} {ch : List Addr} (I : Inv X pins σ H s) (ho : s'.os = s.os) (u : Un (frs X.stack) ch H H' s.heap s'.heap) (hok : HOk X.prog X.w H' s'.heap) (hg : AllBare s'.gens)
    (hch : ∀ b ∈ ch, (b ∈ X.ex ∨ X.s₀.heap.objs.size ≤ b) ∧ b ≠ X.env.locals ∧ (∀ x c, X.env.cells.lookup x = some c → c ≠ b) ∧ ∀ p ∈ X.pn ++ pins, p.1 ≠ b) : Inv X pins σ H' s' := by
  obtain ⟨h', g', d', t', o'⟩ := s'
  have e : o' = s.os := ho
  subst e
  exact I.call (g' := g') (t' := t') (d' := d') u hok hg hch
end

/-! ### the judgements -/
/-- an exception: its class, its own dict's address (where it has one), the abstract heap behind it -/
abbrev XK := Value → Option Addr → Hp → Prop
abbrev St := List (Option V)
abbrev VK := V → Hp → Prop
/-- an expression's reading; a test's; an argument list's -/
abbrev TE := St → Hp → VK → Prop
abbrev TT := St → Hp → (Bool → Hp → Prop) → Prop
abbrev TA := St → Hp → (List V → Hp → Prop) → Prop
/-- what is wanted behind a statement -/
structure Ends where
  nx : St → Hp → Prop
  rt : VK
  bk : St → Hp → Prop := fun _ _ => False
  ct : St → Hp → Prop := fun _ _ => False
abbrev TS := Ends → St → Hp → Prop

def EP (X : Cx) (pins : List (Addr × Obj)) (σ : St) (Q : VK) (u : Value) (s' : Shared) : Prop := ∃ v H', Inv X pins σ H' s' ∧ RelV v u ∧ Q v H'
def TP (X : Cx) (pins : List (Addr × Obj)) (σ : St) (Q : Bool → Hp → Prop) (b : Bool) (s' : Shared) : Prop := ∃ H', Inv X pins σ H' s' ∧ Q b H'
def AP (X : Cx) (pins : List (Addr × Obj)) (σ : St) (Q : List V → Hp → Prop) (us : List Value) (s' : Shared) : Prop := ∃ vs H', Inv X pins σ H' s' ∧ Vals vs us ∧ Q vs H'
def SP (X : Cx) (pins : List (Addr × Obj)) (D : Ends) (f : Flow) (s' : Shared) : Prop :=
  match f with
  | .next => ∃ σ' H', Inv X pins σ' H' s' ∧ D.nx σ' H'
  | .brk => ∃ σ' H', Inv X pins σ' H' s' ∧ D.bk σ' H'
  | .cont => ∃ σ' H', Inv X pins σ' H' s' ∧ D.ct σ' H'
  | .ret u => ∃ v σ' H', Inv X pins σ' H' s' ∧ RelV v u ∧ D.rt v H'

def PE (X : Cx) (e : Expr) (t : TE) : Prop :=
  ∀ (pins : List (Addr × Obj)) (s : Shared) (σ : St) (H : Hp) (Q : VK), Inv X pins σ H s → t σ H Q → wpAny (model X.prog X.w) X.A (eval e X.env) (EP X pins σ Q) X.xe s
def PT (X : Cx) (e : Expr) (t : TT) : Prop :=
  ∀ (pins : List (Addr × Obj)) (s : Shared) (σ : St) (H : Hp) (Q : Bool → Hp → Prop), Inv X pins σ H s → t σ H Q → wpAny (model X.prog X.w) X.A (isTrue e X.env (eval e X.env)) (TP X pins σ Q) X.xe s
/-- a test whatever its 'whole' is (and, or) -/
def PW (X : Cx) (e : Expr) (t : TT) : Prop :=
  ∀ (whole : Sem Value) (pins : List (Addr × Obj)) (s : Shared) (σ : St) (H : Hp) (Q : Bool → Hp → Prop), Inv X pins σ H s → t σ H Q → wpAny (model X.prog X.w) X.A (isTrue e X.env whole) (TP X pins σ Q) X.xe s
theorem PW.pt {X : Cx} {e : Expr} {t : TT} (h : PW X e t) : PT X e t := h _
/-- an argument list (no star), from the left -/
def PA (X : Cx) (es : List Expr) (t : TA) : Prop :=
  ∀ (pos : Pos) (pins : List (Addr × Obj)) (s : Shared) (σ : St) (H : Hp) (Q : List V → Hp → Prop), Inv X pins σ H s → t σ H Q → wpAny (model X.prog X.w) X.A (spliced (backTo pos (starEach es X.env))) (AP X pins σ Q) X.xe s
def PS (X : Cx) (st : Stmt) (t : TS) : Prop :=
  ∀ (pins : List (Addr × Obj)) (s : Shared) (σ : St) (H : Hp) (D : Ends), Inv X pins σ H s → t D σ H → wpAny (model X.prog X.w) X.A (exec st X.env) (SP X pins D) X.xe s
def PSs (X : Cx) (st : List Stmt) (t : TS) : Prop :=
  ∀ (pins : List (Addr × Obj)) (s : Shared) (σ : St) (H : Hp) (D : Ends), Inv X pins σ H s → t D σ H → wpAny (model X.prog X.w) X.A (execs st X.env) (SP X pins D) X.xe s
/-- weaken the end -/
theorem thn {α : Type} {t : Sem α} {Q Q' : α → Shared → Prop} {M : Model} {A : Around} {E : Value → Shared → Prop} {s : Shared} (h : wpAny M A t Q E s) (hQ : ∀ a s, Q a s → Q' a s) : wpAny M A t Q' E s := wpAny_mono h hQ fun _ _ x => x
end L2

namespace L2
open PySem PySem.Spec PyProof.Rows
section
variable {X : Cx}

/-- two expressions in a row -/
theorem bin {a b : Expr} {ta tb : TE} (ha : PE X a ta) (hb : PE X b tb) {pins : List (Addr × Obj)} {s : Shared} {σ : St} {H : Hp} {R : V → V → Hp → Prop} (I : Inv X pins σ H s) (h : ta σ H fun x H1 => tb σ H1 fun y H2 => R x y H2)
    {α : Type} {Q : α → Shared → Prop} {f : Value → Value → Sem α}
    (hf : ∀ v u s2 x y H2, Inv X pins σ H2 s2 → RelV x v → RelV y u → R x y H2 → wpAny (model X.prog X.w) X.A (f v u) Q X.xe s2) :
    wpAny (model X.prog X.w) X.A (eval a X.env) (fun v s₁ => wpAny (model X.prog X.w) X.A (eval b X.env) (fun u s₂ => wpAny (model X.prog X.w) X.A (f v u) Q X.xe s₂) X.xe s₁) X.xe s := by
  refine thn (ha pins s σ H _ I h) fun v s1 ⟨x, H1, I1, r1, q1⟩ => ?_
  refine thn (hb pins s1 σ H1 _ I1 q1) fun u s2 ⟨y, H2, I2, r2, q2⟩ => ?_
  exact hf v u s2 x y H2 I2 r1 r2 q2

/-! ### names and constants -/
def tVar (i : Nat) : TE := fun σ H Q => ∃ v, σ[i]? = some (some v) ∧ Q v H
def tC (v : V) : TE := fun _ H Q => Q v H
theorem pe_var {i : Nat} {x : Str} {pos : Pos} (hN : X.N[i]? = some x) (hv : Vis X.env.scope x) (hd : (x == ("__debug__" : Str)) = false := by decide) (hcd : (x == ("__classdict__" : Str)) = false := by decide) : PE X (.Name x pos) (tVar i) := by
  intro pins s σ H Q I h
  obtain ⟨v, e, h⟩ := h
  obtain ⟨m, hn, hl⟩ := I.loc
  obtain ⟨u, r, l⟩ := hl i x v hN e hv
  have fin : EP X pins σ Q u s := ⟨v, H, I, r, h⟩
  rcases l with ⟨hk, hm⟩ | ⟨hk, c, hc, hcell⟩
  · exact wpAny_Name (wpAny_loadName_local I.ok.kind hk hn hm fin) hd
  · rcases hk with hk | hk
    · exact wpAny_Name (wpAny_loadName_cell I.ok.kind hk hc hcell fin) hd
    · exact wpAny_Name (wpAny_loadName_free I.ok.kind hk hc hcell fin hcd) hd
theorem pe_int {i j pos} : PE X (.Constant (.int i) j pos) (tC (.int i)) := fun _ _ _ H _ I h => wpAny_Constant_int ⟨.int i, H, I.tok _, ⟨_, rfl⟩, h⟩
theorem pe_bl {b j pos} : PE X (.Constant (.bool b) j pos) (tC (.bl b)) := fun _ _ _ H _ I h => Constant_bool ⟨.bl b, H, I, rfl, h⟩
theorem pe_non {j pos} : PE X (.Constant .none j pos) (tC .non) := fun _ _ _ H _ I h => Constant_none ⟨.non, H, I, rfl, h⟩
theorem pe_str {x j pos} : PE X (.Constant (.str x) j pos) (tC (.str x)) := fun _ _ _ H _ I h => Calls.Constant_str ⟨.str x, H, I.tok _, ⟨_, rfl⟩, h⟩

/-- a global name of the def -/
def Gl (X : Cx) (x : Str) : Prop := X.env.kindOf x = some .globalImplicit
theorem ld_glob {E : Value → Shared → Prop} {pins : List (Addr × Obj)} {s : Shared} {σ : St} {H : Hp} {x : Str} {u : Value} {pos : Pos} {Q : Value → Shared → Prop} (I : Inv X pins σ H s) (hg : Gl X x) (hm : X.mg x = some u) (h : Q u s)
    (hd : (x == ("__debug__" : Str)) = false := by decide) : wpAny (model X.prog X.w) X.A (eval (.Name x pos) X.env) Q E s :=
  Calls.Name_function_global I.ok.kind hg (Calls.loadGlobal_global (by rw [I.ok.glob]; exact I.mod.glob.keeps I.bk) hm h) hd
theorem ld_blt {E : Value → Shared → Prop} {pins : List (Addr × Obj)} {s : Shared} {σ : St} {H : Hp} {x : Str} {u : Value} {pos : Pos} {Q : Value → Shared → Prop} (I : Inv X pins σ H s) (hg : Gl X x) (hm : X.mg x = none) (hv : bootBuiltins x = some u) (h : Q u s)
    (hn : x ≠ "__name__" := by decide) (hd : (x == ("__debug__" : Str)) = false := by decide) : wpAny (model X.prog X.w) X.A (eval (.Name x pos) X.env) Q E s := by
  obtain ⟨mb, h1, h2⟩ := I.mod.blt
  exact Calls.Name_function_global I.ok.kind hg (Calls.loadGlobal_builtin (by rw [I.ok.glob]; exact I.mod.glob.keeps I.bk) hm (by rw [I.ok.blt]; exact h1.keeps I.bk) ((h2 x hn).trans hv) h) hd
/-- a module's constant, a class, a function, as a value -/
theorem pe_glob {x : Str} {v : V} {u : Value} {pos : Pos} (hg : Gl X x) (hm : X.mg x = some u) (r : RelV v u) (hd : (x == ("__debug__" : Str)) = false := by decide) : PE X (.Name x pos) (tC v) :=
  fun _ _ _ H _ I h => ld_glob I hg hm ⟨v, H, I, r, h⟩ hd
theorem pe_bltn {x : Str} {v : V} {u : Value} {pos : Pos} (hg : Gl X x) (hm : X.mg x = none) (hv : bootBuiltins x = some u) (r : RelV v u) (hn : x ≠ "__name__" := by decide) (hd : (x == ("__debug__" : Str)) = false := by decide) : PE X (.Name x pos) (tC v) :=
  fun _ _ _ H _ I h => ld_blt I hg hm hv ⟨v, H, I, r, h⟩ hn hd

/-! ### arithmetic -/
/-- two ints -/
def t2I (ta tb : TE) (k : Int → Int → Hp → Prop) : St → Hp → Prop := fun σ H => ta σ H fun x H1 => tb σ H1 fun y H2 => ∃ i j, x = .int i ∧ y = .int j ∧ k i j H2
def tAdd (ta tb : TE) : TE := fun σ H Q => t2I ta tb (fun i j H2 => Q (.int (i + j)) H2) σ H
def tSub (ta tb : TE) : TE := fun σ H Q => t2I ta tb (fun i j H2 => Q (.int (i - j)) H2) σ H
/-- the left factor below 2^64 -/
def tMul (ta tb : TE) : TE := fun σ H Q => t2I ta tb (fun i j H2 => (-(2 ^ 64) < i ∧ i < 2 ^ 64) ∧ Q (.int (i * j)) H2) σ H
variable {a b : Expr} {ta tb : TE} {pos : Pos}
theorem pe_add (ha : PE X a ta) (hb : PE X b tb) : PE X (.BinOp a .Add b pos) (tAdd ta tb) := by
  intro pins s σ H Q I h
  refine wpAny_BinOp (bin ha hb I h fun v u s2 x y H2 I2 rx ry q => ?_)
  obtain ⟨i, j, rfl, rfl, q⟩ := q
  obtain ⟨t, rfl⟩ := rx
  obtain ⟨t', rfl⟩ := ry
  exact add_int ⟨.int _, H2, I2.tok _, ⟨_, rfl⟩, q⟩
theorem pe_sub (ha : PE X a ta) (hb : PE X b tb) : PE X (.BinOp a .Sub b pos) (tSub ta tb) := by
  intro pins s σ H Q I h
  refine wpAny_BinOp (bin ha hb I h fun v u s2 x y H2 I2 rx ry q => ?_)
  obtain ⟨i, j, rfl, rfl, q⟩ := q
  obtain ⟨t, rfl⟩ := rx
  obtain ⟨t', rfl⟩ := ry
  exact sub_int ⟨.int _, H2, I2.tok _, ⟨_, rfl⟩, q⟩
theorem pe_mul (ha : PE X a ta) (hb : PE X b tb) : PE X (.BinOp a .Mult b pos) (tMul ta tb) := by
  intro pins s σ H Q I h
  refine wpAny_BinOp (bin ha hb I h fun v u s2 x y H2 I2 rx ry q => ?_)
  obtain ⟨i, j, rfl, rfl, ⟨q1, q2⟩, q⟩ := q
  obtain ⟨t, rfl⟩ := rx
  obtain ⟨t', rfl⟩ := ry
  exact mul_int ⟨.int _, H2, I2.tok _, ⟨_, rfl⟩, q⟩ (.of_left (intBits_le_64 q1 q2))

/-! ### comparisons -/
def PC (X : Cx) (op : CmpOp) (a b : Expr) (t : TE) : Prop :=
  ∀ (pins : List (Addr × Obj)) (s : Shared) (σ : St) (H : Hp) (Q : VK), Inv X pins σ H s → t σ H Q →
    wpAny (model X.prog X.w) X.A (eval a X.env) (fun v s₁ => wpAny (model X.prog X.w) X.A (eval b X.env) (fun u s₂ => wpAny (model X.prog X.w) X.A (compareOp op v u) (EP X pins σ Q) X.xe s₂) X.xe s₁) X.xe s
theorem nobehind (b : Expr) {op : CmpOp} (h : op ≠ .In) (h2 : op ≠ .NotIn) : behindInMarks op b = false := by
  have e1 : (op == CmpOp.In) = false := by cases op <;> first | rfl | exact absurd rfl h
  have e2 : (op == CmpOp.NotIn) = false := by cases op <;> first | rfl | exact absurd rfl h2
  cases b <;> simp [behindInMarks, e1, e2]
def tCmp (p : Int → Int → Bool) (ta tb : TE) : TE := fun σ H Q => t2I ta tb (fun i j H2 => Q (.bl (p i j)) H2) σ H
abbrev tLt : TE → TE → TE := tCmp fun i j => decide (i < j)
abbrev tLe : TE → TE → TE := tCmp fun i j => decide (i ≤ j)
abbrev tGt : TE → TE → TE := tCmp fun i j => decide (j < i)
abbrev tGe : TE → TE → TE := tCmp fun i j => decide (j ≤ i)
abbrev tEqI : TE → TE → TE := tCmp fun i j => decide (i = j)
abbrev tNeI : TE → TE → TE := tCmp fun i j => !decide (i = j)
/-- a comparison of two ints, by its rule -/
theorem pc_int {op : CmpOp} {p : Int → Int → Bool} (ha : PE X a ta) (hb : PE X b tb)
    (rule : ∀ (i j : Int) (t u : Tok) (Q : Value → Shared → Prop) (s : Shared), Q (.bool (p i j)) s → wpAny (model X.prog X.w) X.A (compareOp op (.int i t) (.int j u)) Q X.xe s) : PC X op a b (tCmp p ta tb) := by
  intro pins s σ H Q I h
  refine bin ha hb I h fun v u s2 x y H2 I2 rx ry q => ?_
  obtain ⟨i, j, rfl, rfl, q⟩ := q
  obtain ⟨t, rfl⟩ := rx
  obtain ⟨t', rfl⟩ := ry
  exact rule i j t t' _ s2 ⟨.bl _, H2, I2, rfl, q⟩
theorem pc_lt (ha : PE X a ta) (hb : PE X b tb) : PC X .Lt a b (tLt ta tb) := pc_int ha hb fun _ _ _ _ _ _ h => lt_int h
theorem pc_le (ha : PE X a ta) (hb : PE X b tb) : PC X .LtE a b (tLe ta tb) := pc_int ha hb fun _ _ _ _ _ _ h => le_int h
theorem pc_gt (ha : PE X a ta) (hb : PE X b tb) : PC X .Gt a b (tGt ta tb) := pc_int ha hb fun _ _ _ _ _ _ h => gt_int h
theorem pc_ge (ha : PE X a ta) (hb : PE X b tb) : PC X .GtE a b (tGe ta tb) := pc_int ha hb fun _ _ _ _ _ _ h => ge_int h
theorem pc_eqI (ha : PE X a ta) (hb : PE X b tb) : PC X .Eq a b (tEqI ta tb) := pc_int ha hb fun _ _ _ _ _ _ h => eq_int (by rw [Bool.beq_eq_decide_eq]; exact h)
theorem pc_neI (ha : PE X a ta) (hb : PE X b tb) : PC X .NotEq a b (tNeI ta tb) := pc_int ha hb fun _ _ _ _ _ _ h => ne_int (by rw [bne, Bool.beq_eq_decide_eq]; exact h)
/-- is None -/
def tIsN (ta : TE) : TE := fun σ H Q => ta σ H fun x H1 => Q (.bl (decide (x = .non))) H1
def tNotN (ta : TE) : TE := fun σ H Q => ta σ H fun x H1 => Q (.bl (!decide (x = .non))) H1
theorem RelV.none_iff {x : V} {v : Value} (r : RelV x v) : (v == Value.none) = decide (x = .non) := by
  cases x with
  | non => cases r; rfl
  | bl _ => cases r; rfl
  | int _ => obtain ⟨t, rfl⟩ := r; rfl
  | str _ => obtain ⟨t, rfl⟩ := r; rfl
  | byt _ => obtain ⟨t, rfl⟩ := r; rfl
  | flt _ => obtain ⟨t, rfl⟩ := r; rfl
  | ref _ => cases r; rfl
  | ty _ => cases r; rfl
theorem pc_isN {j pos'} (ha : PE X a ta) : PC X .Is a (.Constant .none j pos') (tIsN ta) := by
  intro pins s σ H Q I h
  refine thn (ha pins s σ H _ I h) fun v s1 ⟨x, H1, I1, r1, q1⟩ => ?_
  exact Constant_none (is_none_gen ⟨.bl _, H1, I1, by rw [r1.none_iff]; rfl, q1⟩)
theorem pc_notN {j pos'} (ha : PE X a ta) : PC X .IsNot a (.Constant .none j pos') (tNotN ta) := by
  intro pins s σ H Q I h
  refine thn (ha pins s σ H _ I h) fun v s1 ⟨x, H1, I1, r1, q1⟩ => ?_
  exact Constant_none (isnot_none_gen ⟨.bl _, H1, I1, by rw [r1.none_iff]; rfl, q1⟩)
/-- a comparison as a value, as a test -/
def tB (t : TE) : TT := fun σ H Q => t σ H fun x H1 => ∃ c, x = .bl c ∧ Q c H1
theorem pe_cmp {op : CmpOp} {t : TE} (h : PC X op a b t) (h1 : behindInMarks op b = false := by first | exact nobehind _ (by decide) (by decide) | rfl) : PE X (.Compare a [op] [b] pos) t := fun pins s σ H Q I hw => wpAny_Compare1 (h pins s σ H Q I hw) h1
theorem pt_cmp {op : CmpOp} {t : TE} (h : PC X op a b t) (h1 : behindInMarks op b = false := by first | exact nobehind _ (by decide) (by decide) | rfl) : PT X (.Compare a [op] [b] pos) (tB t) := by
  intro pins s σ H Q I hw
  refine wpAny_isTrue_Compare1 (thn (h pins s σ H _ I hw) fun v s1 h1 => thn h1 fun u s2 h2 => thn h2 fun c s3 ⟨x, H1, I1, r1, q1⟩ => ?_) h1
  obtain ⟨d, rfl, q⟩ := q1
  cases r1
  exact wpAny_truthy_bool ⟨H1, I1, q⟩
/-- an expression whose value is a bool, as a test -/
theorem pt_val {e : Expr} {t : TE} (h : PE X e t) (he : ∀ whole, isTrue e X.env whole = (do let v ← whole; standAt e.pos; holding [v] (truthy v)) := by intro _; rfl) : PT X e (tB t) := by
  intro pins s σ H Q I hw
  refine isTrue_plain (thn (h pins s σ H _ I hw) fun v s1 ⟨x, H1, I1, r1, q1⟩ => ?_) (he _)
  obtain ⟨d, rfl, q⟩ := q1
  cases r1
  exact wpAny_truthy_bool ⟨H1, I1, q⟩

/-! ### and, or, not -/
variable {tA tB' : TT} {rest : List Expr}
def tAnd (t u : TT) : TT := fun σ H Q => t σ H fun c H1 => if c = true then u σ H1 Q else Q false H1
def tOr (t u : TT) : TT := fun σ H Q => t σ H fun c H1 => if c = true then Q true H1 else u σ H1 Q
def tNot (t : TT) : TT := fun σ H Q => t σ H fun c H1 => Q (!c) H1
theorem pw_and1 (ha : PT X a tA) : PW X (.BoolOp .And [a] pos) tA := by
  intro wh pins s σ H Q I h
  refine isTrue_and (thn (ha pins s σ H Q I h) fun c s1 e => ?_)
  cases c with
  | true => exact isTrue_and_nil e
  | false => exact e
theorem pw_or1 (ha : PT X a tA) : PW X (.BoolOp .Or [a] pos) tA := by
  intro wh pins s σ H Q I h
  refine isTrue_or (thn (ha pins s σ H Q I h) fun c s1 e => ?_)
  cases c with
  | false => exact isTrue_or_nil e
  | true => exact e
theorem pw_and (ha : PT X a tA) (hb : PW X (.BoolOp .And (b :: rest) pos) tB') : PW X (.BoolOp .And (a :: b :: rest) pos) (tAnd tA tB') := by
  intro wh pins s σ H Q I h
  refine isTrue_and (thn (ha pins s σ H _ I h) fun c s1 ⟨H1, I1, q1⟩ => ?_)
  cases c with
  | true => exact hb wh pins s1 σ H1 Q I1 q1
  | false => exact ⟨H1, I1, q1⟩
theorem pw_or (ha : PT X a tA) (hb : PW X (.BoolOp .Or (b :: rest) pos) tB') : PW X (.BoolOp .Or (a :: b :: rest) pos) (tOr tA tB') := by
  intro wh pins s σ H Q I h
  refine isTrue_or (thn (ha pins s σ H _ I h) fun c s1 ⟨H1, I1, q1⟩ => ?_)
  cases c with
  | true => exact ⟨H1, I1, q1⟩
  | false => exact hb wh pins s1 σ H1 Q I1 q1
theorem pt_not (ha : PT X a tA) : PT X (.UnaryOp .Not a pos) (tNot tA) := by
  intro pins s σ H Q I h
  exact isTrue_not (ha pins s σ H (fun c H1 => Q (!c) H1) I h)
/-- .. as values (bools) -/
def tAndV (ta tb : TE) : TE := fun σ H Q => ta σ H fun x H1 => ∃ c, x = .bl c ∧ if c = true then tb σ H1 Q else Q (.bl false) H1
def tOrV (ta tb : TE) : TE := fun σ H Q => ta σ H fun x H1 => ∃ c, x = .bl c ∧ if c = true then Q (.bl true) H1 else tb σ H1 Q
def tNotV (ta : TE) : TE := fun σ H Q => ta σ H fun x H1 => ∃ c, x = .bl c ∧ Q (.bl (!c)) H1
theorem pe_one {op} {t : TE} (h : PE X a t) : PE X (.BoolOp op [a] pos) t := fun pins s σ H Q I hw => BoolOp_one (h pins s σ H Q I hw)
theorem pe_and (ha : PE X a ta) (hb : PE X (.BoolOp .And (b :: rest) pos) tb) : PE X (.BoolOp .And (a :: b :: rest) pos) (tAndV ta tb) := by
  intro pins s σ H Q I h
  refine BoolOp_and (thn (ha pins s σ H _ I h) fun v s1 ⟨x, H1, I1, r1, q1⟩ => ?_)
  obtain ⟨c, rfl, q1⟩ := q1
  cases r1
  refine wpAny_truthy_bool ?_
  cases c with
  | true => exact hb pins s1 σ H1 Q I1 q1
  | false => exact ⟨.bl false, H1, I1, rfl, q1⟩
theorem pe_or (ha : PE X a ta) (hb : PE X (.BoolOp .Or (b :: rest) pos) tb) : PE X (.BoolOp .Or (a :: b :: rest) pos) (tOrV ta tb) := by
  intro pins s σ H Q I h
  refine BoolOp_or (thn (ha pins s σ H _ I h) fun v s1 ⟨x, H1, I1, r1, q1⟩ => ?_)
  obtain ⟨c, rfl, q1⟩ := q1
  cases r1
  refine wpAny_truthy_bool ?_
  cases c with
  | false => exact hb pins s1 σ H1 Q I1 q1
  | true => exact ⟨.bl true, H1, I1, rfl, q1⟩
theorem pe_not (ha : PE X a ta) : PE X (.UnaryOp .Not a pos) (tNotV ta) := by
  intro pins s σ H Q I h
  refine UnaryOp_ (thn (ha pins s σ H _ I h) fun v s1 ⟨x, H1, I1, r1, q1⟩ => ?_)
  obtain ⟨c, rfl, q1⟩ := q1
  cases r1
  exact not_of (wpAny_truthy_bool ⟨.bl (!c), H1, I1, rfl, q1⟩)
/-- a if t else b -/
def tIf (t : TT) (ta tb : TE) : TE := fun σ H Q => t σ H fun c H1 => if c = true then ta σ H1 Q else tb σ H1 Q
theorem pe_ifExp {c : Expr} (hc : PT X c tA) (ha : PE X a ta) (hb : PE X b tb) : PE X (.IfExp c a b pos) (tIf tA ta tb) := by
  intro pins s σ H Q I h
  refine wpAny_IfExp (thn (hc pins s σ H _ I h) fun d s1 ⟨H1, I1, q1⟩ => ?_)
  cases d with
  | true => exact ha pins s1 σ H1 Q I1 q1
  | false => exact hb pins s1 σ H1 Q I1 q1
end
end L2

namespace L2
open PySem PySem.Spec PyProof.Rows

/-! ### a list, a tuple that is read: tracked, frozen, or an object of the module -/
def SqL (K : PySem.W.Frag) (H : Hp) (a : Addr) (xs : List V) : Prop :=
  Rd H a (.lst xs) ∨
    ∃ (o : Obj) (its : Array Value) (n : Nat), K.lookup a = some o ∧ o.cls = .type "list" ∧ o.dict = none ∧ o.data = .seq its n ∧ its.size ≤ sizeLine ∧ Vals xs its.toList
def SqT (K : PySem.W.Frag) (H : Hp) (a : Addr) (xs : List V) : Prop :=
  Rd H a (.tup xs) ∨
    ∃ (o : Obj) (its : Array Value) (n : Nat), K.lookup a = some o ∧ o.cls = .type "tuple" ∧ o.data = .seq its n ∧ its.size ≤ sizeLine ∧ Vals xs its.toList
def absV : Value → Option V
  | .none => some .non
  | .bool b => some (.bl b)
  | .int i _ => some (.int i)
  | .str x _ => some (.str x)
  | .bytes b _ => some (.byt b)
  | .float b _ => some (.flt b)
  | .ref a => some (.ref a)
  | .type n => some (.ty n)
  | _ => none
theorem RelV.abs {x : V} {u : Value} (r : RelV x u) : absV u = some x := by
  cases x with
  | non => cases r; rfl
  | bl _ => cases r; rfl
  | int _ => obtain ⟨t, rfl⟩ := r; rfl
  | str _ => obtain ⟨t, rfl⟩ := r; rfl
  | byt _ => obtain ⟨t, rfl⟩ := r; rfl
  | flt _ => obtain ⟨t, rfl⟩ := r; rfl
  | ref _ => cases r; rfl
  | ty _ => cases r; rfl
theorem RelV.inj {x y : V} {u : Value} (r : RelV x u) (q : RelV y u) : x = y := Option.some.inj (r.abs.symm.trans q.abs)
theorem Vals.inj : ∀ {xs ys : List V} {us : List Value}, Vals xs us → Vals ys us → xs = ys
  | _, _, _, .nil, .nil => rfl
  | _, _, _, .cons r t, .cons r' t' => by rw [r.inj r', Vals.inj t t']
section
variable {X : Cx} {pins : List (Addr × Obj)} {σ : St} {H : Hp} {s : Shared} {a : Addr} {xs ys : List V}
theorem SqL.of {K : PySem.W.Frag} (h : H a = some (.lst xs)) : SqL K H a xs := .inl (.inl h)
theorem SqT.of {K : PySem.W.Frag} (h : H a = some (.tup xs)) : SqT K H a xs := .inl (.inl h)
theorem Inv.list (I : Inv X pins σ H s) (h : SqL X.K H a xs) : ∃ its : List Value, Vals xs its ∧ PlainL s.heap a its.toArray ∧ xs.length ≤ sizeLine := by
  rcases h with h | ⟨o, its, n, hk, hc, hd, hs, hz, r⟩
  · obtain ⟨z, its, n, r, e⟩ := h.ok I.hok
    exact ⟨its, r, ⟨_, n, e, rfl, rfl, rfl⟩, z⟩
  · refine ⟨its.toList, r, ⟨o, n, I.kIn a o hk, hc, hd, by simpa using hs⟩, ?_⟩
    have e := r.length
    simp only [Array.length_toList] at e
    omega
theorem Inv.tuple (I : Inv X pins σ H s) (h : SqT X.K H a xs) : ∃ its : List Value, Vals xs its ∧ IsTup s.heap a its.toArray ∧ xs.length ≤ sizeLine := by
  rcases h with h | ⟨o, its, n, hk, hc, hs, hz, r⟩
  · obtain ⟨z, its, r, p⟩ := h.ok I.hok
    exact ⟨its, r, p, z⟩
  · refine ⟨its.toList, r, ⟨o, I.kIn a o hk, hc, n, by simpa using hs⟩, ?_⟩
    have e := r.length
    simp only [Array.length_toList] at e
    omega
theorem Inv.list_inj (I : Inv X pins σ H s) (h : SqL X.K H a xs) (h' : SqL X.K H a ys) : xs = ys := by
  obtain ⟨its, r, ⟨o, n, e, _, _, d⟩, _⟩ := I.list h
  obtain ⟨its', r', ⟨o', n', e', _, _, d'⟩, _⟩ := I.list h'
  rw [e] at e'; cases e'
  rw [d] at d'
  injection d' with d1 _
  have : its = its' := by simpa using congrArg Array.toList d1
  subst this
  exact r.inj r'
theorem Inv.tuple_inj (I : Inv X pins σ H s) (h : SqT X.K H a xs) (h' : SqT X.K H a ys) : xs = ys := by
  obtain ⟨its, r, ⟨o, e, _, n, d⟩, _⟩ := I.tuple h
  obtain ⟨its', r', ⟨o', e', _, n', d'⟩, _⟩ := I.tuple h'
  rw [e] at e'; cases e'
  rw [d] at d'
  injection d' with d1 _
  have : its = its' := by simpa using congrArg Array.toList d1
  subst this
  exact r.inj r'
end

/-! ### another wish about exceptions -/
abbrev Cx.wish (X : Cx) (E : Value → Shared → Prop) : Cx := { X with xe := E }
/-- no exception leaves -/
abbrev Cx.nox (X : Cx) : Cx := X.wish fun _ _ => False
theorem Cx.Ok.wish {X : Cx} (ok : X.Ok) (E : Value → Shared → Prop) : (X.wish E).Ok :=
  ⟨ok.mod, ok.kind, ok.glob, ok.blt, ok.above, ok.inj, ok.has, ok.cab, ok.hd, ok.frames, ok.stk, ok.exf, ok.bs, ok.bsz, ok.noex, ok.exfs, ok.funs, ok.frf⟩
theorem Cx.Ok.unwish {X : Cx} {E : Value → Shared → Prop} (ok : (X.wish E).Ok) : X.Ok :=
  ⟨ok.mod, ok.kind, ok.glob, ok.blt, ok.above, ok.inj, ok.has, ok.cab, ok.hd, ok.frames, ok.stk, ok.exf, ok.bs, ok.bsz, ok.noex, ok.exfs, ok.funs, ok.frf⟩
section
variable {X : Cx} {pins : List (Addr × Obj)} {σ : St} {H : Hp} {s : Shared} {E : Value → Shared → Prop}
theorem Inv.wish (I : Inv X pins σ H s) (E : Value → Shared → Prop) : Inv (X.wish E) pins σ H s := ⟨I.ok.wish E, I.os, I.bare, I.base, I.loc, I.cell, I.free, I.freeC, I.pin, I.hok, I.len⟩
theorem Inv.unwish (I : Inv (X.wish E) pins σ H s) : Inv X pins σ H s := ⟨I.ok.unwish, I.os, I.bare, I.base, I.loc, I.cell, I.free, I.freeC, I.pin, I.hok, I.len⟩
theorem SP.unwish {D : Ends} {f : Flow} {s' : Shared} (h : SP (X.wish E) pins D f s') : SP X pins D f s' := by
  cases f with
  | next => obtain ⟨σ', H', I, q⟩ := h; exact ⟨σ', H', I.unwish, q⟩
  | brk => obtain ⟨σ', H', I, q⟩ := h; exact ⟨σ', H', I.unwish, q⟩
  | cont => obtain ⟨σ', H', I, q⟩ := h; exact ⟨σ', H', I.unwish, q⟩
  | ret u => obtain ⟨v, σ', H', I, r, q⟩ := h; exact ⟨v, σ', H', I.unwish, r, q⟩
theorem PE.nox {e : Expr} {t : TE} (h : PE X.nox e t) : PE X e t := fun pins s σ H Q I hw =>
  wpAny_mono (h pins s σ H Q (I.wish _) hw) (fun _ _ ⟨v, H', I', r, q⟩ => ⟨v, H', I'.unwish, r, q⟩) fun _ _ z => False.elim z
theorem PT.nox {e : Expr} {t : TT} (h : PT X.nox e t) : PT X e t := fun pins s σ H Q I hw =>
  wpAny_mono (h pins s σ H Q (I.wish _) hw) (fun _ _ ⟨H', I', q⟩ => ⟨H', I'.unwish, q⟩) fun _ _ z => False.elim z
theorem PSs.nox {st : List Stmt} {t : TS} (h : PSs X.nox st t) : PSs X st t := fun pins s σ H D I hw =>
  wpAny_mono (h pins s σ H D (I.wish _) hw) (fun _ _ q => q.unwish) fun _ _ z => False.elim z
end

/-! ### blocks and small statements -/
section
variable {X : Cx} {st : Stmt} {rest : List Stmt} {t u : TS} {e : Expr} {te : TE} {pos : Pos}
def tNext : TS := fun D σ H => D.nx σ H
def tSeq (t u : TS) : TS := fun D σ H => t { D with nx := u D } σ H
theorem pss_nil : PSs X [] tNext := fun _ _ σ H _ I h => wpAny_execs_nil ⟨σ, H, I, h⟩
theorem pss_cons (h1 : PS X st t) (h2 : PSs X rest u) : PSs X (st :: rest) (tSeq t u) := by
  intro pins s σ H D I h
  refine wpAny_execs_cons (thn (h1 pins s σ H { D with nx := u D } I h) fun f s1 q => ?_)
  cases f with
  | next =>
    obtain ⟨σ', H', I', q⟩ := q
    exact h2 pins s1 σ' H' D I' q
  | ret v => exact q
  | brk => exact q
  | cont => exact q
theorem pss_one (h1 : PS X st t) : PSs X [st] t := by
  intro pins s σ H D I h
  refine wpAny_execs_cons (thn (h1 pins s σ H D I h) fun f s1 q => ?_)
  cases f with
  | next => exact wpAny_execs_nil q
  | ret v => exact q
  | brk => exact q
  | cont => exact q
def tBreak : TS := fun D σ H => D.bk σ H
def tCont : TS := fun D σ H => D.ct σ H
theorem ps_pass : PS X (.Pass pos) tNext := fun _ _ σ H _ I h => wpAny_Pass ⟨σ, H, I, h⟩
theorem ps_break : PS X (.Break pos) tBreak := fun _ _ σ H _ I h => wpAny_Break ⟨σ, H, I, h⟩
theorem ps_continue : PS X (.Continue pos) tCont := fun _ _ σ H _ I h => wpAny_Continue ⟨σ, H, I, h⟩
/-- in a def's body nothing is shown -/
theorem Inv.quiet {pins : List (Addr × Obj)} {σ : St} {H : Hp} {s : Shared} (I : Inv X pins σ H s) : interactive X.env = false := by simp [interactive, I.ok.kind]
/-- a docstring -/
theorem ps_doc {x j pos pos'} : PS X (.Expr (.Constant (.str x) j pos) pos') tNext := fun _ s σ H _ I h => wpAny_Expr (Calls.Constant_str (show SP X _ _ .next { s with toks := s.toks + 1 } from ⟨σ, H, I.tok _, h⟩)) I.quiet
/-- an expression whose value is dropped -/
def tDrop (te : TE) : TS := fun D σ H => te σ H fun _ H1 => D.nx σ H1
theorem ps_expr (he : PE X e te) (hs : swapsWith e none pos.line X.env = pure false := by rfl) : PS X (.Expr e pos) (tDrop te) := by
  intro pins s σ H D I h
  exact wpAny_Expr_any (thn (he pins s σ H _ I h) fun v s1 ⟨x, H1, I1, r1, q1⟩ => ⟨σ, H1, I1, q1⟩) I.quiet hs
def tRet (te : TE) : TS := fun D σ H => te σ H D.rt
theorem ps_ret (he : PE X e te) : PS X (.Return (some e) pos) (tRet te) := by
  intro pins s σ H D I h
  exact wpAny_Return_some (thn (he pins s σ H _ I h) fun v s1 ⟨x, H1, I1, r1, q1⟩ => ⟨x, σ, H1, I1, r1, q1⟩)
def tRetN : TS := fun D _ H => D.rt .non H
theorem ps_retN : PS X (.Return none pos) tRetN := fun _ _ σ H _ I h => wpAny_Return_none ⟨.non, σ, H, I, rfl, h⟩
def tIfS (c : TT) (t u : TS) : TS := fun D σ H => c σ H fun b H1 => if b = true then t D σ H1 else u D σ H1
theorem ps_if {c : Expr} {a b : List Stmt} {tc : TT} (hc : PT X c tc) (ha : PSs X a t) (hb : PSs X b u) : PS X (.If c a b pos) (tIfS tc t u) := by
  intro pins s σ H D I h
  refine wpAny_If (thn (hc pins s σ H _ I h) fun d s1 ⟨H1, I1, q1⟩ => ?_)
  cases d with
  | true => exact ha pins s1 σ H1 D I1 q1
  | false => exact hb pins s1 σ H1 D I1 q1
/-- code that the proof never comes to -/
def tNever : TS := fun _ _ _ => False
theorem ps_never : PS X st tNever := fun _ _ _ _ _ _ h => h.elim
theorem pss_never {sts : List Stmt} : PSs X sts tNever := fun _ _ _ _ _ _ h => h.elim
end

/-! ### targets -/
abbrev TG := V → St → Hp → (St → Hp → Prop) → Prop
abbrev TGs := List V → St → Hp → (St → Hp → Prop) → Prop
def PG (X : Cx) (target : Expr) (t : TG) : Prop :=
  ∀ (pins : List (Addr × Obj)) (s : Shared) (σ : St) (H : Hp) (v : V) (u : Value) (Q : St → Hp → Prop), Inv X pins σ H s → RelV v u → t v σ H Q →
    wpAny (model X.prog X.w) X.A (assign target X.env u) (fun _ s' => ∃ σ' H', Inv X pins σ' H' s' ∧ Q σ' H') X.xe s
/-- several targets, one after another -/
def PGs (X : Cx) (ts : List Expr) (t : TGs) : Prop :=
  ∀ (pins : List (Addr × Obj)) (s : Shared) (σ : St) (H : Hp) (vs : List V) (us : List Value) (Q : St → Hp → Prop), Inv X pins σ H s → Vals vs us → t vs σ H Q →
    wpAny (model X.prog X.w) X.A (assignInOrder ((assignEach ts X.env).map (·.2)) us) (fun _ s' => ∃ σ' H', Inv X pins σ' H' s' ∧ Q σ' H') X.xe s
/-- o[i] = v, by values -/
abbrev TSet := V → V → V → Hp → (Hp → Prop) → Prop
def PSet (X : Cx) (t : TSet) : Prop :=
  ∀ (pins : List (Addr × Obj)) (s : Shared) (σ : St) (H : Hp) (o i v : V) (ov iv u : Value) (Q : Hp → Prop), Inv X pins σ H s → RelV o ov → RelV i iv → RelV v u → t o i v H Q →
    wpAny (model X.prog X.w) X.A (setItem ov iv u) (fun _ s' => ∃ H', Inv X pins σ H' s' ∧ Q H') X.xe s
/-- a op= b, by values -/
abbrev TIp := V → V → Hp → VK → Prop
def PIp (X : Cx) (op : Operator) (t : TIp) : Prop :=
  ∀ (pins : List (Addr × Obj)) (s : Shared) (σ : St) (H : Hp) (x y : V) (v u : Value) (Q : VK), Inv X pins σ H s → RelV x v → RelV y u → t x y H Q →
    wpAny (model X.prog X.w) X.A (inplaceOp op v u) (EP X pins σ Q) X.xe s
section
variable {X : Cx} {pos : Pos}
def gName (i : Nat) : TG := fun v σ H Q => Q (σ.set i (some v)) H
theorem pg_name {i : Nat} {x : Str} (hN : X.N.Nodup) (hi : X.N[i]? = some x) (hx : Loc X.env.scope x) (hf : X.fn x = true ∨ X.env.scope.names.lookup x = some .local := by first | exact .inl rfl | exact .inr rfl | assumption) : PG X (.Name x pos) (gName i) := by
  intro pins s σ H v u Q I r h
  exact wpAny_assign_Name (store_ok I hN hi hx r (fun s' I' => ⟨_, H, I', h⟩) hf)
def gNil : TGs := fun vs σ H Q => vs = [] ∧ Q σ H
def gCons (t : TG) (u : TGs) : TGs := fun vs σ H Q => ∃ v r, vs = v :: r ∧ t v σ H fun σ' H' => u r σ' H' Q
theorem pgs_nil : PGs X [] gNil := by
  intro pins s σ H vs us Q I r h
  obtain ⟨e, h⟩ := h
  subst e
  cases r
  exact assignInOrder_nil ⟨σ, H, I, h⟩
theorem pgs_cons {e : Expr} {es : List Expr} {t : TG} {u : TGs} (h1 : PG X e t) (h2 : PGs X es u)
    (hs : (assignEach (e :: es) X.env).map (·.2) = assign e X.env :: (assignEach es X.env).map (·.2) := by rfl) : PGs X (e :: es) (gCons t u) := by
  intro pins s σ H vs us Q I r h
  obtain ⟨v, vr, e1, h⟩ := h
  subst e1
  cases r with
  | cons r rr =>
    rw [hs]
    refine assignInOrder_cons (thn (h1 pins s σ H _ _ _ I r h) fun _ s1 ⟨σ1, H1, I1, q1⟩ => ?_)
    exact h2 pins s1 σ1 H1 _ _ Q I1 rr q1
/-- (a, b, ..) = a tuple of that length -/
def gTup (K : PySem.W.Frag) (n : Nat) (t : TGs) : TG := fun v σ H Q => ∃ a xs, v = .ref a ∧ SqT K H a xs ∧ xs.length = n ∧ t xs σ H Q
theorem pg_tup {es : List Expr} {k : Nat} {t : TGs} {n : Nat} (hc : X.calm = true) (h : PGs X es t)
    (hn : (assignEach es X.env).length = n := by rfl) (hst : (assignEach es X.env).findIdx? (·.1) = none := by rfl) : PG X (.Tuple es k pos) (gTup X.K n t) := by
  intro pins s σ H v u Q I r hw
  obtain ⟨a, xs, e1, hq, hl, hw⟩ := hw
  subst e1
  cases r
  obtain ⟨its, rv, ht, hz⟩ := I.tuple hq
  refine assign_Tuple_tuple (I.ok.hd hc) ht (by simp [hn, ← hl, rv.length]) hst fun h' hx => ?_
  have I1 : Inv X pins σ H { s with heap := h' } := I.kept (t' := s.toks) fun b o e => hx b o (Nat.ne_of_lt (Heap.lt_size e)) e
  exact h pins _ σ H xs _ Q I1 (by simpa using rv) hw
/-- o[i] = .. -/
def gSub (to ti : TE) (t : TSet) : TG := fun v σ H Q => to σ H fun o H1 => ti σ H1 fun i H2 => t o i v H2 fun H3 => Q σ H3
theorem pg_sub {o i : Expr} {to ti : TE} {t : TSet} (ho : PE X o to) (hi : PE X i ti) (hs : PSet X t)
    (ha : ∀ v, assign (.Subscript o i pos) X.env v = (do
      let ov ← holding [v] (eval o X.env)
      let iv ← holding [v, ov] (eval i X.env)
      standAt pos
      holding [v, ov, iv] (setItem ov iv v)
      release [v, ov, iv] []) := by intro _; rfl) : PG X (.Subscript o i pos) (gSub to ti t) := by
  intro pins s σ H v u Q I r h
  rw [ha]
  refine wpAny_bind (wpAny_holding (thn (ho pins s σ H _ I h) fun ov s1 ⟨x, H1, I1, r1, q1⟩ => ?_))
  refine wpAny_bind (wpAny_holding (thn (hi pins s1 σ H1 _ I1 q1) fun iv s2 ⟨y, H2, I2, r2, q2⟩ => ?_))
  refine wpAny_bind (wpAny_standAt (wpAny_bind (wpAny_holding (thn (hs pins s2 σ H2 x y v ov iv u _ I2 r1 r2 r q2) fun _ s3 ⟨H3, I3, q3⟩ => ?_))))
  exact wpAny_release ⟨σ, H3, I3, q3⟩
/-- target = value -/
def tAsg (te : TE) (g : TG) : TS := fun D σ H => te σ H fun x H1 => g x σ H1 D.nx
theorem ps_asg {tg e : Expr} {te : TE} {g : TG} (he : PE X e te) (hg : PG X tg g) (hs : swapsWithSole [tg] e pos.line X.env = pure false := by rfl) (hw : swappedStores [tg] e X.env = pure none := by rfl)
    (h1 : (assignEach [tg] X.env).map (·.2) = [assign tg X.env] := by rfl) : PS X (.Assign [tg] e pos) (tAsg te g) := by
  intro pins s σ H D I h
  refine wpAny_Assign_stores (thn (he pins s σ H _ I h) fun v s1 ⟨x, H1, I1, r1, q1⟩ => ?_) hs hw
  rw [h1]
  exact thn (hg pins s1 σ H1 x v _ I1 r1 q1) fun _ s2 q => q
/-- name = value -/
theorem ps_set {i : Nat} {x : Str} {e : Expr} {te : TE} {pos' : Pos} (hN : X.N.Nodup) (hi : X.N[i]? = some x) (hx : Loc X.env.scope x) (he : PE X e te) (hs : swapsWith e (some (.Name x pos')) pos.line X.env = pure false := by rfl) (hf : X.fn x = true ∨ X.env.scope.names.lookup x = some .local := by first | exact .inl rfl | exact .inr rfl | assumption) :
    PS X (.Assign [.Name x pos'] e pos) (tAsg te (gName i)) := by
  intro pins s σ H D I h
  refine wpAny_Assign_Name (thn (he pins s σ H _ I h) fun v s1 ⟨y, H1, I1, r1, q1⟩ => ?_) hs
  exact store_ok I1 hN hi hx r1 (fun s2 I2 => ⟨_, H1, I2, q1⟩) hf
/-- a, b = x, y with plain local names: stored from the right; the pair itself is not tracked (the opening rows as in PyProof/Rows/TupAssign.lean:23) -/
def tPar (i j : Nat) (ta : TA) : TS := fun D σ H => ta σ H fun vs H1 => ∃ v w, vs = [v, w] ∧ D.nx ((σ.set i (some v)).set j (some w)) H1
theorem ps_par {i j : Nat} {x y : Str} {a b : Expr} {ta : TA} {px py pt : Pos} {kt k2 pt2} (hc : X.calm = true) (hN : X.N.Nodup) (hi : X.N[i]? = some x) (hj : X.N[j]? = some y) (hij : i ≠ j)
    (hx : X.env.scope.names.lookup x = some .local) (hy : X.env.scope.names.lookup y = some .local) (ha : PA X [a, b] ta)
    (hw : swappedStores [.Tuple [.Name x px, .Name y py] kt pt] (.Tuple [a, b] k2 pt2) X.env = pure (some [x, y]))
    (hs : swapsWithSole [.Tuple [.Name x px, .Name y py] kt pt] (.Tuple [a, b] k2 pt2) pos.line X.env = pure false := by rfl) :
    PS X (.Assign [.Tuple [.Name x px, .Name y py] kt pt] (.Tuple [a, b] k2 pt2) pos) (tPar i j ta) := by
  intro pins s σ H D I h
  rw [exec_Assign_arm]
  refine wpAny_bind (wpAny_standAt ?_)
  rw [hs]
  refine wpAny_bind (wpAny_pure ?_)
  rw [if_neg (by decide)]
  refine wpAny_bind (Tuple_ (thn (ha _ pins s σ H _ I h) fun us s1 ⟨vs, H1, I1, r1, q1⟩ => ?_))
  obtain ⟨v, w, e1, q1⟩ := q1
  subst e1
  obtain ⟨u1, u2, rfl, rv, rw'⟩ : ∃ u1 u2, us = [u1, u2] ∧ RelV v u1 ∧ RelV w u2 := by
    cases r1 with
    | cons p q =>
      cases q with
      | cons p' q' =>
        cases q'
        exact ⟨_, _, rfl, p, p'⟩
  refine wpAny_newObj_type ?_ (by show 2 ≤ sizeLine; decide)
  have I2 : Inv X pins σ H1 { s1 with heap := s1.heap.push { cls := .type "tuple", data := .seq [u1, u2].toArray } } := I1.kept (t' := s1.toks) fun b o e => Heap.get?_push_of_some _ e
  rw [hw]
  refine wpAny_bind (wpAny_pure ?_)
  show wpAny (model X.prog X.w) X.A (do rule "assign.swapped-stores"; let items ← unpackItems (.ref s1.heap.objs.size) 2 none; assignInOrder [fun v => bindName X.env y v, fun v => bindName X.env x v] items.reverse; pure Flow.next) _ _ _
  refine wpAny_bind (wpAny_rule (wpAny_bind (unpackItems_tuple (items := #[u1, u2]) (I.ok.hd hc) (IsTup.new s1.heap _) fun h' hx' => ?_)))
  have I3 := I2.kept (h' := h') (t' := s1.toks) fun b o e => hx' b o (Nat.ne_of_lt (Heap.lt_size e)) e
  show wpAny _ _ (assignInOrder [fun v => bindName X.env y v, fun v => bindName X.env x v] [u2, u1] >>= fun _ => pure Flow.next) _ _ _
  refine wpAny_bind (assignInOrder_cons (wpAny_bindName (store_ok I3 hN hj (.inl hy) rw' (fun s2 I4 => ?_) (.inr hy))))
  refine assignInOrder_cons (wpAny_bindName (store_ok I4 hN hi (.inl hx) rv (fun s3 I5 => assignInOrder_nil (wpAny_pure ?_)) (.inr hx)))
  rw [List.set_comm _ _ (Ne.symm hij)] at I5
  exact ⟨_, H1, I5, q1⟩
/-- name op= e -/
def tAug (i : Nat) (te : TE) (ti : TIp) : TS := fun D σ H => ∃ x, σ[i]? = some (some x) ∧ te σ H fun y H1 => ti x y H1 fun z H2 => D.nx (σ.set i (some z)) H2
theorem ps_aug {i : Nat} {x : Str} {e : Expr} {te : TE} {op : Operator} {ti : TIp} {pos' : Pos} (hN : X.N.Nodup) (hi : X.N[i]? = some x) (hx : Loc X.env.scope x) (he : PE X e te) (ho : PIp X op ti) (hf : X.fn x = true ∨ X.env.scope.names.lookup x = some .local := by first | exact .inl rfl | exact .inr rfl | assumption) :
    PS X (.AugAssign (.Name x pos') op e pos) (tAug i te ti) := by
  intro pins s σ H D I h
  obtain ⟨v, e1, h⟩ := h
  obtain ⟨m, hn, hl⟩ := I.loc
  have vis : Vis X.env.scope x := by rcases hx with k | k; exact .inl k; exact .inr (.inl k)
  obtain ⟨u, r, l⟩ := hl i x v hi e1 vis
  refine wpAny_AugAssign_Name ?_
  have go : wpAny (model X.prog X.w) X.A (eval e X.env) (fun w s₂ => wpAny (model X.prog X.w) X.A (inplaceOp op u w) (fun r s₃ => wpAny (model X.prog X.w) X.A (storeName X.env x r) (fun _ => SP X pins D .next) X.xe s₃) X.xe s₂) X.xe s := by
    refine thn (he pins s σ H _ I h) fun w s1 ⟨y, H1, I1, r1, q1⟩ => ?_
    refine thn (ho pins s1 σ H1 v y u w _ I1 r r1 q1) fun z s2 ⟨zv, H2, I2, r2, q2⟩ => ?_
    exact store_ok I2 hN hi hx r2 (fun s3 I3 => ⟨_, H2, I3, q2⟩) hf
  rcases l with ⟨hk, hm⟩ | ⟨hk, c, hc, hcell⟩
  · exact wpAny_loadName_local I.ok.kind hk hn hm go
  · rcases hk with hk | hk
    · exact wpAny_loadName_cell I.ok.kind hk hc hcell go
    · rcases hx with k | k
      · have : X.env.scope.names.lookup x = some .free := hk
        rw [k] at this; cases this
      · have : X.env.scope.names.lookup x = some .free := hk
        rw [k] at this; cases this
/-- o[i] op= e -/
def tAugS (to ti te : TE) (tget : V → V → Hp → VK → Prop) (tip : TIp) (tset : TSet) : TS := fun D σ H => to σ H fun o H1 => ti σ H1 fun i H2 => tget o i H2 fun x H3 => te σ H3 fun y H4 => tip x y H4 fun z H5 => tset o i z H5 fun H6 => D.nx σ H6
/-- o[i], by values -/
def PGet (X : Cx) (t : V → V → Hp → VK → Prop) : Prop :=
  ∀ (pins : List (Addr × Obj)) (s : Shared) (σ : St) (H : Hp) (o i : V) (ov iv : Value) (Q : VK), Inv X pins σ H s → RelV o ov → RelV i iv → t o i H Q →
    wpAny (model X.prog X.w) X.A (getItem ov iv) (EP X pins σ Q) X.xe s
theorem ps_augS {o i e : Expr} {to ti te : TE} {tget : V → V → Hp → VK → Prop} {tip : TIp} {tset : TSet} {op : Operator} {tpos : Pos} (ho : PE X o to) (hi : PE X i ti) (hg : PGet X tget) (he : PE X e te) (hp : PIp X op tip) (hs : PSet X tset)
    (ha : ∀ ov iv new, augStore i ov iv new = (do holding [new, ov, iv] (setItem ov iv new); release [new, ov, iv] []; pure .next) := by intros; rfl) : PS X (.AugAssign (.Subscript o i tpos) op e pos) (tAugS to ti te tget tip tset) := by
  intro pins s σ H D I h
  refine wpAny_AugAssign_SubscriptAny (thn (ho pins s σ H _ I h) fun ov s1 ⟨x1, H1, I1, r1, q1⟩ => ?_) ha
  refine thn (hi pins s1 σ H1 _ I1 q1) fun iv s2 ⟨x2, H2, I2, r2, q2⟩ => ?_
  refine thn (hg pins s2 σ H2 x1 x2 ov iv _ I2 r1 r2 q2) fun old s3 ⟨x3, H3, I3, r3, q3⟩ => ?_
  refine thn (he pins s3 σ H3 _ I3 q3) fun v s4 ⟨x4, H4, I4, r4, q4⟩ => ?_
  refine thn (hp pins s4 σ H4 x3 x4 old v _ I4 r3 r4 q4) fun new s5 ⟨x5, H5, I5, r5, q5⟩ => ?_
  exact thn (hs pins s5 σ H5 x1 x2 x5 ov iv new _ I5 r1 r2 r5 q5) fun _ s6 ⟨H6, I6, q6⟩ => ⟨σ, H6, I6, q6⟩
/-- ints -/
def ipI (f : Int → Int → Int) : TIp := fun x y H Q => ∃ i j, x = .int i ∧ y = .int j ∧ Q (.int (f i j)) H
theorem ip_add : PIp X .Add (ipI fun i j => i + j) := by
  intro pins s σ H x y v u Q I r1 r2 h
  obtain ⟨i, j, e1, e2, q⟩ := h
  subst e1; subst e2
  obtain ⟨t, rfl⟩ := r1
  obtain ⟨t', rfl⟩ := r2
  exact iadd_int ⟨.int _, H, I.tok _, ⟨_, rfl⟩, q⟩
theorem ip_sub : PIp X .Sub (ipI fun i j => i - j) := by
  intro pins s σ H x y v u Q I r1 r2 h
  obtain ⟨i, j, e1, e2, q⟩ := h
  subst e1; subst e2
  obtain ⟨t, rfl⟩ := r1
  obtain ⟨t', rfl⟩ := r2
  exact isub_int ⟨.int _, H, I.tok _, ⟨_, rfl⟩, q⟩
end

/-! ### while -/
section
variable {X : Cx} {pos : Pos}
/-- the invariant W with its measure -/
def tWhile (c : TT) (tb : TS) : TS := fun D σ H => ∃ W : Nat → St → Hp → Prop, (∃ m, W m σ H) ∧ ∀ m σ H, W m σ H →
  c σ H fun b H1 => if b = true then ∃ N : St → Hp → Prop, (∀ σ' H', N σ' H' → ∃ m', m' < m ∧ W m' σ' H') ∧ tb { D with nx := N, ct := N, bk := D.nx } σ H1 else D.nx σ H1
theorem ps_while {c : Expr} {body : List Stmt} {tc : TT} {tb : TS} (hp : PassesOwn (model X.prog X.w) X.A X.env X.xe) (hc : PT X c tc) (hb : PSs X body tb) : PS X (.While c body [] pos) (tWhile tc tb) := by
  intro pins s σ H D I h
  obtain ⟨W, ⟨m0, w0⟩, turn⟩ := h
  refine wpAny_While (codeAny_whileLoop (fun n s' => ∃ σ' H', Inv X pins σ' H' s' ∧ W n σ' H') ?_ m0 ⟨σ, H, I, w0⟩)
  rintro n s1 ⟨σ1, H1, I1, w1⟩
  refine wpAny_passesOwn hp (thn (hc pins s1 σ1 H1 _ I1 (turn n σ1 H1 w1)) fun b s2 ⟨H2, I2, q2⟩ => ?_)
  cases b with
  | true =>
    obtain ⟨N, hN, q2⟩ := q2
    rw [if_pos rfl]
    refine wpAny_passesOwn hp (thn (hb pins s2 σ1 H2 _ I2 q2) fun f s3 q3 => ?_)
    cases f with
    | next =>
      obtain ⟨σ3, H3, I3, n3⟩ := q3
      obtain ⟨m', hm, w3⟩ := hN σ3 H3 n3
      exact ⟨m', hm, σ3, H3, I3, w3⟩
    | cont =>
      obtain ⟨σ3, H3, I3, n3⟩ := q3
      obtain ⟨m', hm, w3⟩ := hN σ3 H3 n3
      exact ⟨m', hm, σ3, H3, I3, w3⟩
    | brk => exact q3
    | ret v => exact q3
  | false =>
    rw [if_neg Bool.false_ne_true]
    exact wpAny_execs_nil ⟨σ1, H2, I2, q2⟩
end

/-! ### what a loop or a comprehension walks -/
/-- at turn i: it yields x (the heap may grow), or it stops -/
structure It where
  go : Nat → Hp → Prop
  yld : Nat → Hp → V → Hp → Prop
  stop : Nat → Hp → Prop
/-- the iterator's own objects may turn: they are not the frame's, not pinned, younger than the entry (or a comprehension's own) -/
def FpOk (X : Cx) (pins : List (Addr × Obj)) (H : Hp) (b : Addr) : Prop :=
  H b = none ∧ b ≠ X.env.locals ∧ b ∉ X.fs ∧ (b ∈ X.ex ∨ X.s₀.heap.objs.size ≤ b) ∧ (∀ x c, X.env.cells.lookup x = some c → c ≠ b) ∧ ∀ p ∈ X.pn ++ pins, p.1 ≠ b
theorem Inv.fpOk {X : Cx} {pins : List (Addr × Obj)} {σ : St} {H H' : Hp} {s : Shared} {b : Addr} (I : Inv X pins σ H s) (hb : s.heap.objs.size ≤ b) (hn : H' b = none) : FpOk X pins H' b := by
  refine ⟨hn, Nat.ne_of_gt (Nat.lt_of_lt_of_le I.lt hb), I.nofs hb, .inr (Nat.le_trans I.sz hb), fun x c e z => ?_, fun p hp z => ?_⟩
  · obtain ⟨v, q⟩ := I.cell x c e
    exact absurd (Nat.lt_of_lt_of_le q.lt (by rw [z]; exact hb)) (Nat.lt_irrefl _)
  · exact absurd (Nat.lt_of_lt_of_le (Heap.lt_size (I.pin p hp).1) (by rw [z]; exact hb)) (Nat.lt_irrefl _)
structure Turn (P : Program) (w : World) (K : PySem.W.Frag) (tg : Expr) (J : It) (fp : List Addr) (it : Addr) (tn : Nat → Heap → Prop) : Prop where
  mem : it ∈ fp
  obj : ∀ i h, tn i h → ∀ b ∈ fp, ∃ o, h.get? b = some o ∧ ∀ v, o.data ≠ .cell v
  keep : ∀ i h h', tn i h → (∀ b ∈ fp, ∀ o, h.get? b = some o → h'.get? b = some o) → tn i h'
  item : ∀ (X : Cx), X.prog = P → X.w = w → X.K = K → X.calm = true → ∀ (i : Nat) (pins : List (Addr × Obj)) (s : Shared) (σ : St) (H : Hp) (E : Value → Shared → Prop), Inv X pins σ H s → (∀ b ∈ fp, FpOk X pins H b) → tn i s.heap → J.go i H →
    wpAny (model P w) X.A (pyNext (.ref it)) (fun r s1 => ∃ u, r = some u ∧
      wpAny (model P w) X.A (letOwnedTupleGo tg (.ref it) u) (fun _ s2 => ∃ x H', Inv X pins σ H' s2 ∧ RelV x u ∧ J.yld i H x H' ∧ tn (i + 1) s2.heap ∧ ∀ b ∈ fp, H' b = none) E s1) E s
  done : ∀ (X : Cx), X.prog = P → X.w = w → X.K = K → X.calm = true → ∀ (i : Nat) (pins : List (Addr × Obj)) (s : Shared) (σ : St) (H : Hp) (E : Value → Shared → Prop), Inv X pins σ H s → (∀ b ∈ fp, FpOk X pins H b) → tn i s.heap → J.stop i H →
    wpAny (model P w) X.A (pyNext (.ref it)) (fun r s1 => r = none ∧ Inv X pins σ H s1) E s
  self : ∀ (A : Around) (i : Nat) (s : Shared) (Q : Value → Shared → Prop) (E : Value → Shared → Prop), tn i s.heap → Q (.ref it) s → wpAny (model P w) A (pyIter (.ref it)) Q E s
abbrev TI := St → Hp → (It → Hp → Prop) → Prop
/-- an iterator has come -/
def PIE (X : Cx) (pins : List (Addr × Obj)) (σ : St) (tg : Expr) (R : It → Hp → Prop) (itv : Value) (s2 : Shared) : Prop :=
  ∃ (it : Addr) (fp : List Addr) (tn : Nat → Heap → Prop) (J : It) (H' : Hp), itv = .ref it ∧ Inv X pins σ H' s2 ∧ Turn X.prog X.w X.K tg J fp it tn ∧ tn 0 s2.heap ∧ (∀ b ∈ fp, FpOk X pins H' b) ∧ R J H'
def PI (X : Cx) (tg iter : Expr) (wi : TI) : Prop :=
  ∀ (pins : List (Addr × Obj)) (s : Shared) (σ : St) (H : Hp) (R : It → Hp → Prop), Inv X pins σ H s → wi σ H R →
    wpAny (model X.prog X.w) X.A (eval iter X.env) (fun v s1 => wpAny (model X.prog X.w) X.A (pyIter v) (PIE X pins σ tg R) X.xe s1) X.xe s

/-- the step ahead of the store is nothing for an iterator that keeps no tuple -/
theorem go_of {M : Model} {A : Around} {E : Value → Shared → Prop} {s : Shared} {tg : Expr} {it : Addr} {u : Value} {o : Obj} {n : String} {vs : Array Value} {Q : Unit → Shared → Prop} (ho : s.heap.get? it = some o) (hc : o.cls = .type n) (hd : o.data = .fields vs)
    (hn : ["enumerate", "zip", "dict_itemiterator", "dict_reverseitemiterator", "odict_iterator", "itertools.zip_longest", "itertools.pairwise"].contains n = false) (hQ : Q () s) : wpAny M A (letOwnedTupleGo tg (.ref it) u) Q E s := by
  unfold letOwnedTupleGo
  cases tg <;> first
    | exact wpAny_pure hQ
    | (cases u <;> first
        | exact wpAny_pure hQ
        | (refine wpAny_bind (wpAny_load ho ?_)
           rw [hc, hd]
           show wpAny M A (if (["enumerate", "zip", "dict_itemiterator", "dict_reverseitemiterator", "odict_iterator", "itertools.zip_longest", "itertools.pairwise"].contains n && vs[0]? == some (rawInt _)) = true then _ else _) Q E s
           rw [if_neg (by intro h; rw [hn, Bool.false_and] at h; cases h)]
           exact wpAny_pure hQ))

/-- the list at a, as it stands at each turn (a loop may append to it) -/
def Itl (K : PySem.W.Frag) (a : Addr) : It :=
  ⟨fun i H => ∃ xs x, SqL K H a xs ∧ xs[i]? = some x, fun i H x H' => H' = H ∧ ∀ xs, SqL K H a xs → xs[i]? = some x, fun i H => ∃ xs, SqL K H a xs ∧ xs.length ≤ i⟩
def Itt (K : PySem.W.Frag) (a : Addr) : It :=
  ⟨fun i H => ∃ xs x, SqT K H a xs ∧ xs[i]? = some x, fun i H x H' => H' = H ∧ ∀ xs, SqT K H a xs → xs[i]? = some x, fun i H => ∃ xs, SqT K H a xs ∧ xs.length ≤ i⟩
/-- lo, lo + 1, .. (n of them) -/
def Itr (lo : Int) (n : Nat) : It := ⟨fun i _ => i < n, fun i H x H' => H' = H ∧ x = .int (lo + i), fun i _ => n ≤ i⟩
theorem turn_list {P : Program} {w : World} {K : PySem.W.Frag} {tg : Expr} (a it : Addr) : Turn P w K tg (Itl K a) [it] it (fun i h => h.IsListIter it a i) where
  mem := by simp
  obj := fun i h st b hb => by
    have e : b = it := by simpa using hb
    subst e
    obtain ⟨o, e, c, d⟩ := st
    exact ⟨o, e, fun v z => by rw [d] at z; cases z⟩
  keep := fun i h h' st k => st.at fun o e => k it (by simp) o e
  item := by
    intro X hP hw hK hc i pins s σ H E I hf st hg
    subst hP hw hK
    obtain ⟨xs, x, hq, hx⟩ := hg
    obtain ⟨its, rv, p, hz⟩ := I.list hq
    obtain ⟨u, hu, ru⟩ := rv.get hx
    obtain ⟨f0, f1, f2, f3, f4, f5⟩ := hf it (by simp)
    refine wpAny_pyNext_list_item st p.isList (x := u) (by simpa using hu) fun h' st' sb => ?_
    have I1 : Inv X pins σ H { s with heap := h' } := I.turned (t' := s.toks) (fun b o hb e => (sb.2 b hb).trans e) f0 f1 f3 f4 f5
    obtain ⟨o, e, c, d⟩ := id st'
    exact ⟨u, rfl, go_of (s := { s with heap := h' }) e c d (by decide) ⟨x, H, I1, ru, ⟨rfl, fun ys hy => by rw [I.list_inj hy hq]; exact hx⟩, st', fun b hb => (hf b hb).1⟩⟩
  done := by
    intro X hP hw hK hc i pins s σ H E I hf st hg
    subst hP hw hK
    obtain ⟨xs, hq, hx⟩ := hg
    obtain ⟨its, rv, p, hz⟩ := I.list hq
    obtain ⟨f0, f1, f2, f3, f4, f5⟩ := hf it (by simp)
    have hl := rv.length
    exact wpAny_pyNext_list_end (I.ok.hd hc) st p.isList (by simp; omega) fun h' eb => ⟨rfl, I.turned (t' := s.toks) (fun b o hb e => eb b o hb e) f0 f1 f3 f4 f5⟩
  self := fun _ _ _ _ _ st h => wpAny_pyIter_listiter st h
theorem turn_tuple {P : Program} {w : World} {K : PySem.W.Frag} {tg : Expr} (a it : Addr) : Turn P w K tg (Itt K a) [it] it (fun i h => h.IsTupleIter it a i) where
  mem := by simp
  obj := fun i h st b hb => by
    have e : b = it := by simpa using hb
    subst e
    obtain ⟨o, e, c, d⟩ := st
    exact ⟨o, e, fun v z => by rw [d] at z; cases z⟩
  keep := fun i h h' st k => st.at fun o e => k it (by simp) o e
  item := by
    intro X hP hw hK hc i pins s σ H E I hf st hg
    subst hP hw hK
    obtain ⟨xs, x, hq, hx⟩ := hg
    obtain ⟨its, rv, p, hz⟩ := I.tuple hq
    obtain ⟨u, hu, ru⟩ := rv.get hx
    obtain ⟨f0, f1, f2, f3, f4, f5⟩ := hf it (by simp)
    refine wpAny_pyNext_tuple_item st (show s.heap.IsTuple a its.toArray from p) (x := u) (by simpa using hu) fun h' st' sb => ?_
    have I1 : Inv X pins σ H { s with heap := h' } := I.turned (t' := s.toks) (fun b o hb e => (sb.2 b hb).trans e) f0 f1 f3 f4 f5
    obtain ⟨o, e, c, d⟩ := id st'
    exact ⟨u, rfl, go_of (s := { s with heap := h' }) e c d (by decide) ⟨x, H, I1, ru, ⟨rfl, fun ys hy => by rw [I.tuple_inj hy hq]; exact hx⟩, st', fun b hb => (hf b hb).1⟩⟩
  done := by
    intro X hP hw hK hc i pins s σ H E I hf st hg
    subst hP hw hK
    obtain ⟨xs, hq, hx⟩ := hg
    obtain ⟨its, rv, p, hz⟩ := I.tuple hq
    obtain ⟨f0, f1, f2, f3, f4, f5⟩ := hf it (by simp)
    have hl := rv.length
    exact wpAny_pyNext_tuple_end (I.ok.hd hc) st (show s.heap.IsTuple a its.toArray from p) (by simp; omega) fun h' eb => ⟨rfl, I.turned (t' := s.toks) (fun b o hb e => eb b o hb e) f0 f1 f3 f4 f5⟩
  self := fun _ _ _ _ _ st h => wpAny_pyIter_tupleiter st h
theorem turn_range {P : Program} {w : World} {K : PySem.W.Frag} {tg : Expr} (it : Addr) (lo : Int) (n : Nat) : Turn P w K tg (Itr lo n) [it] it (fun i h => IsRangeIter h it (lo + (i : Nat) * 1) ((n : Int) - (i : Nat)) 1) where
  mem := by simp
  obj := fun i h st b hb => by
    have e : b = it := by simpa using hb
    subst e
    exact ⟨_, st, fun v z => by
      have z' : Data.fields _ = Data.cell v := z
      cases z'⟩
  keep := fun i h h' st k => k it (by simp) _ st
  item := by
    intro X hP hw hK hc i pins s σ H E I hf st hg
    subst hP hw hK
    obtain ⟨f0, f1, f2, f3, f4, f5⟩ := hf it (by simp)
    have W := Walks.range (prog := X.prog) (w := X.w) (I.ok.hd hc) it lo 1 n
    refine W.item i s _ _ hg st fun v h' tk hv st' kk => ?_
    obtain ⟨t, rfl⟩ := hv
    have I1 : Inv X pins σ H { s with heap := h', toks := tk } := I.turned (fun b o hb e => kk b o (by simpa using hb) e) f0 f1 f3 f4 f5
    refine ⟨_, rfl, go_of (s := { s with heap := h', toks := tk }) (n := "range_iterator") st' rfl rfl (by decide) ⟨.int (lo + i), H, I1, ⟨t, ?_⟩, ⟨rfl, rfl⟩, st', fun b hb => (hf b hb).1⟩⟩
    rw [Int.mul_one]
  done := by
    intro X hP hw hK hc i pins s σ H E I hf st hg
    subst hP hw hK
    obtain ⟨f0, f1, f2, f3, f4, f5⟩ := hf it (by simp)
    exact wpAny_pyNext_range_end (I.ok.hd hc) st (by have : n ≤ i := hg; omega) fun h' eb => ⟨rfl, I.turned (t' := s.toks) (fun b o hb e => eb b o hb e) f0 f1 f3 f4 f5⟩
  self := fun _ _ _ _ _ st h => wpAny_pyIter_rangeiter st h
end L2

namespace L2
open PySem PySem.Spec PyProof.Rows
section
variable {X : Cx} {tg : Expr}
def iList (K : PySem.W.Frag) (tl : TE) : TI := fun σ H R => tl σ H fun x H1 => ∃ a, x = .ref a ∧ (∃ xs, SqL K H1 a xs) ∧ R (Itl K a) H1
def iTup (K : PySem.W.Frag) (tl : TE) : TI := fun σ H R => tl σ H fun x H1 => ∃ a, x = .ref a ∧ (∃ xs, SqT K H1 a xs) ∧ R (Itt K a) H1
theorem pi_list {l : Expr} {tl : TE} (hl : PE X l tl) : PI X tg l (iList X.K tl) := by
  intro pins s σ H R I h
  refine thn (hl pins s σ H _ I h) fun v s1 ⟨x, H1, I1, r1, q1⟩ => ?_
  obtain ⟨a, e, ⟨xs, hq⟩, q⟩ := q1
  subst e
  cases r1
  obtain ⟨its, rv, p, hz⟩ := I1.list hq
  refine wpAny_pyIter_list p.isList ?_
  refine ⟨s1.heap.objs.size, [s1.heap.objs.size], _, _, H1, rfl, I1.kept (t' := s1.toks) fun b o e => Heap.get?_push_of_some _ e, turn_list a _, ⟨_, Heap.get?_push_size _ rfl, rfl, rfl⟩, fun b hb => ?_, q⟩
  have e : b = s1.heap.objs.size := by simpa using hb
  subst e
  exact I1.fpOk (Nat.le_refl _) (I1.hok.fresh (Nat.le_refl _))
theorem pi_tup {l : Expr} {tl : TE} (hl : PE X l tl) : PI X tg l (iTup X.K tl) := by
  intro pins s σ H R I h
  refine thn (hl pins s σ H _ I h) fun v s1 ⟨x, H1, I1, r1, q1⟩ => ?_
  obtain ⟨a, e, ⟨xs, hq⟩, q⟩ := q1
  subst e
  cases r1
  obtain ⟨its, rv, p, hz⟩ := I1.tuple hq
  refine wpAny_pyIter_tuple (show s1.heap.IsTuple a its.toArray from p) ?_
  refine ⟨s1.heap.objs.size, [s1.heap.objs.size], _, _, H1, rfl, I1.kept (t' := s1.toks) fun b o e => Heap.get?_push_of_some _ e, turn_tuple a _, ⟨_, Heap.get?_push_size _ rfl, rfl, rfl⟩, fun b hb => ?_, q⟩
  have e : b = s1.heap.objs.size := by simpa using hb
  subst e
  exact I1.fpOk (Nat.le_refl _) (I1.hok.fresh (Nat.le_refl _))
/-- a range object just made, walked -/
theorem range_it {pins : List (Addr × Obj)} {σ : St} {H : Hp} {s : Shared} {R : It → Hp → Prop} {E : Value → Shared → Prop} {lo hi : Int} {t u v : Tok} {tk : Nat} (I : Inv X pins σ H s) (h1 : -(2 ^ 62) ≤ lo) (h2 : lo < 2 ^ 62) (h3 : -(2 ^ 62) ≤ hi) (h4 : hi < 2 ^ 62)
    (q : R (Itr lo (hi - lo).toNat) H) : wpAny (model X.prog X.w) X.A (pyIter (.ref s.heap.objs.size)) (PIE X pins σ tg R) E { s with heap := s.heap.push { cls := .type "range", data := .fields #[.int lo t, .int hi u, .int 1 v] }, toks := tk } := by
  refine wpAny_pyIter_range (IsRange.new ..) (small_one h1 h2 h3 h4) ?_
  have I1 : Inv X pins σ H { s with heap := s.heap.push { cls := .type "range", data := .fields #[.int lo t, .int hi u, .int 1 v] }, toks := tk } := I.kept fun b o e => Heap.get?_push_of_some _ e
  refine ⟨(s.heap.push { cls := .type "range", data := .fields #[.int lo t, .int hi u, .int 1 v] }).objs.size, [(s.heap.push { cls := .type "range", data := .fields #[.int lo t, .int hi u, .int 1 v] }).objs.size], _, _, H, rfl,
    I1.kept (t' := tk) fun b o e => Heap.get?_push_of_some _ e, turn_range _ lo (hi - lo).toNat, ?_, fun b hb => ?_, q⟩
  · have e1 : lo + ((0 : Nat) : Int) * 1 = lo := by simp
    have e2 : (((hi - lo).toNat : Nat) : Int) - ((0 : Nat) : Int) = Builtin.Range.rangeSize lo hi 1 := by rw [rangeSize_one]; split <;> omega
    show IsRangeIter _ _ (lo + ((0 : Nat) : Int) * 1) ((((hi - lo).toNat : Nat) : Int) - ((0 : Nat) : Int)) 1
    rw [e1, e2]
    exact Heap.get?_push_size _ rfl
  · have e : b = (s.heap.push { cls := .type "range", data := .fields #[.int lo t, .int hi u, .int 1 v] }).objs.size := by simpa using hb
    subst e
    exact I1.fpOk (Nat.le_refl _) (I1.hok.fresh (Nat.le_refl _))
def iRng1 (ta : TA) : TI := fun σ H R => ta σ H fun vs H1 => ∃ j : Int, vs = [.int j] ∧ -(2 ^ 62) ≤ j ∧ j < 2 ^ 62 ∧ R (Itr 0 j.toNat) H1
def iRng2 (ta : TA) : TI := fun σ H R => ta σ H fun vs H1 => ∃ i j : Int, vs = [.int i, .int j] ∧ (-(2 ^ 62) ≤ i ∧ i < 2 ^ 62 ∧ -(2 ^ 62) ≤ j ∧ j < 2 ^ 62) ∧ R (Itr i (j - i).toNat) H1
theorem pi_range1 {a : Expr} {ta : TA} {p pos : Pos} (hg : Gl X "range") (hm : X.mg "range" = none) (ha : PA X [a] ta) (hs : starEach [a] X.env = [(false, eval a X.env)] := by rfl) : PI X tg (.Call (.Name "range" p) [a] [] pos) (iRng1 ta) := by
  intro pins s σ H R I h
  refine Call_ (ld_blt I hg hm boot_range (PyProof.Rows.callWith_type1 (thn (ha pos pins s σ H _ I h) fun us s1 ⟨vs, H1, I1, r1, q1⟩ => ?_) hs rfl))
  obtain ⟨j, e, q1, q2, q⟩ := q1
  subst e
  cases r1 with
  | cons r rr =>
    cases rr
    obtain ⟨t, rfl⟩ := r
    exact call_range_1 (range_it I1 (by omega) (by omega) q1 q2 (by simpa using q))
theorem pi_range2 {a b : Expr} {ta : TA} {p pos : Pos} (hg : Gl X "range") (hm : X.mg "range" = none) (ha : PA X [a, b] ta) (hs : starEach [a, b] X.env = [(false, eval a X.env), (false, eval b X.env)] := by rfl) (hs2 : starEach [b] X.env = [(false, eval b X.env)] := by rfl) :
    PI X tg (.Call (.Name "range" p) [a, b] [] pos) (iRng2 ta) := by
  intro pins s σ H R I h
  refine Call_ (ld_blt I hg hm boot_range (PyProof.Rows.callWith_type1 (thn (ha pos pins s σ H _ I h) fun us s1 ⟨vs, H1, I1, r1, q1⟩ => ?_) (by rw [hs, hs2]) (by rw [hs2]; rfl)))
  obtain ⟨i, j, e, ⟨q1, q2, q3, q4⟩, q⟩ := q1
  subst e
  cases r1 with
  | cons r rr =>
    cases rr with
    | cons r' rr =>
      cases rr
      obtain ⟨t, rfl⟩ := r
      obtain ⟨t', rfl⟩ := r'
      exact call_range_2 (range_it I1 q1 q2 q3 q4 q)

/-! ### for -/
/-- W: the invariant by the turn and a measure; N: what the body is to reach -/
def tFor (wi : TI) (g : TG) (tb : TS) : TS := fun D σ H => wi σ H fun J H1 => ∃ W : Nat → Nat → St → Hp → Prop, (∃ m, W 0 m σ H1) ∧ ∀ i m σ H, W i m σ H →
  (J.stop i H ∧ D.nx σ H) ∨ (J.go i H ∧ ∃ N : St → Hp → Prop, (∀ σ' H', N σ' H' → ∃ m', m' < m ∧ W (i + 1) m' σ' H') ∧ ∀ x H', J.yld i H x H' → g x σ H' fun σ2 H2 => tb { D with nx := N, ct := N, bk := D.nx } σ2 H2)
/-- the records at fp as they stand -/
def pinsAt (fp : List Addr) (h : Heap) : List (Addr × Obj) := fp.filterMap fun b => (h.get? b).map fun o => (b, o)
theorem mem_pinsAt {fp : List Addr} {h : Heap} {b : Addr} {o : Obj} (hb : b ∈ fp) (e : h.get? b = some o) : (b, o) ∈ pinsAt fp h := List.mem_filterMap.mpr ⟨b, hb, by rw [e]; rfl⟩
theorem of_pinsAt {fp : List Addr} {h : Heap} {p : Addr × Obj} (hp : p ∈ pinsAt fp h) : p.1 ∈ fp ∧ h.get? p.1 = some p.2 := by
  obtain ⟨b, hb, e⟩ := List.mem_filterMap.mp hp
  cases q : h.get? b with
  | none => rw [q] at e; cases e
  | some o =>
    rw [q] at e
    have e' : (b, o) = p := Option.some.inj e
    subst e'
    exact ⟨hb, q⟩
theorem Inv.pinned {pins : List (Addr × Obj)} {σ : St} {H : Hp} {s : Shared} {fp : List Addr} (I : Inv X pins σ H s) (hf : ∀ b ∈ fp, FpOk X pins H b) (ho : ∀ b ∈ fp, ∃ o, s.heap.get? b = some o ∧ ∀ v, o.data ≠ .cell v) : Inv X (pins ++ pinsAt fp s.heap) σ H s :=
  I.pins_of fun p hp => (List.mem_append.mp hp).elim (fun z => I.pin p (List.mem_append_right _ z)) fun z => by
    obtain ⟨hb, e⟩ := of_pinsAt z
    obtain ⟨f0, f1, f2, _⟩ := hf p.1 hb
    obtain ⟨o, e', d⟩ := ho p.1 hb
    rw [e] at e'; cases e'
    exact ⟨e, f0, f1, f2, d⟩
theorem Inv.unpinned {pins pl : List (Addr × Obj)} {σ : St} {H : Hp} {s : Shared} (I : Inv X (pins ++ pl) σ H s) : Inv X pins σ H s := I.pins_of fun p hp => I.pin p (List.mem_append_right _ (List.mem_append_left _ hp))
theorem ps_for {iter : Expr} {body : List Stmt} {wi : TI} {g : TG} {tb : TS} {pos : Pos} (hp : PassesOwn (model X.prog X.w) X.A X.env X.xe) (hc : X.calm = true) (hi : PI X tg iter wi) (hg : PG X tg g) (hb : PSs X body tb)
    (hs : ∀ x, foldedSetIterable iter X.env x = pure x := by intro _; rfl) : PS X (.For tg iter body [] pos) (tFor wi g tb) := by
  intro pins s σ H D I h
  refine wpAny_For (thn (hi pins s σ H _ I h) fun v s1 h1 => thn h1 fun itv s2 h2 => ?_) hs
  obtain ⟨it, fp, tn, J, H2, e, I2, T, st2, f2, W, ⟨m0, w0⟩, turn⟩ := h2
  subst e
  -- what stays true of the iterator's objects through the loop
  have stat : ∀ {H' : Hp}, (∀ b ∈ fp, H' b = none) → ∀ b ∈ fp, FpOk X pins H' b := fun hn b hb => ⟨hn b hb, (f2 b hb).2⟩
  refine codeAny_forLoop_any (fun n s' => ∃ i σ' H', Inv X pins σ' H' s' ∧ tn i s'.heap ∧ (∀ b ∈ fp, H' b = none) ∧ W i n σ' H') ?_ m0 ⟨0, σ, H2, I2, st2, fun b hb => (f2 b hb).1, w0⟩
  rintro n s3 ⟨i, σ3, H3, I3, st3, fr3, w3⟩
  rcases turn i n σ3 H3 w3 with ⟨stop, qn⟩ | ⟨go, N, hN, step⟩
  · refine wpAny_passesOwn hp (thn (T.done X rfl rfl rfl hc i pins s3 σ3 H3 X.xe I3 (stat fr3) st3 stop) fun r s4 ⟨hr, I4⟩ => ?_)
    subst hr
    exact wpAny_execs_nil ⟨σ3, H3, I4, qn⟩
  · refine wpAny_passesOwn hp (thn (T.item X rfl rfl rfl hc i pins s3 σ3 H3 X.xe I3 (stat fr3) st3 go) fun r s4 ⟨u, hr, h4⟩ => ?_)
    subst hr
    refine wpAny_passesOwn hp (thn h4 fun _ s5 ⟨x, H5, I5, r5, y5, st5, fr5⟩ => ?_)
    have I5' := I5.pinned (stat fr5) (T.obj _ _ st5)
    refine wpAny_passesOwn hp (thn (hg _ s5 σ3 H5 x u _ I5' r5 (step x H5 y5)) fun _ s6 ⟨σ6, H6, I6, q6⟩ => ?_)
    refine wpAny_passesOwn hp (thn (hb _ s6 σ6 H6 _ I6 q6) fun f s7 q7 => ?_)
    have again : ∀ {σ7 : St} {H7 : Hp}, Inv X (pins ++ pinsAt fp s5.heap) σ7 H7 s7 → N σ7 H7 → ∃ m, m < n ∧ ∃ i σ' H', Inv X pins σ' H' s7 ∧ tn i s7.heap ∧ (∀ b ∈ fp, H' b = none) ∧ W i m σ' H' := fun {σ7 H7} I7 n7 => by
      obtain ⟨m', hm, w7⟩ := hN σ7 H7 n7
      refine ⟨m', hm, i + 1, σ7, H7, I7.unpinned, T.keep _ _ _ st5 fun b hb o e => (I7.pin (b, o) (List.mem_append_right _ (List.mem_append_right _ (mem_pinsAt hb e)))).1, fun b hb => ?_, w7⟩
      obtain ⟨o, e, d⟩ := T.obj _ _ st5 b hb
      exact (I7.pin (b, o) (List.mem_append_right _ (List.mem_append_right _ (mem_pinsAt hb e)))).2.1
    cases f with
    | next => obtain ⟨σ7, H7, I7, n7⟩ := q7; exact again I7 n7
    | cont => obtain ⟨σ7, H7, I7, n7⟩ := q7; exact again I7 n7
    | brk => obtain ⟨σ7, H7, I7, q7⟩ := q7; exact ⟨σ7, H7, I7.unpinned, q7⟩
    | ret v => obtain ⟨x7, σ7, H7, I7, r7, q7⟩ := q7; exact ⟨x7, σ7, H7, I7.unpinned, r7, q7⟩
end

/-! ### the forms one uses -/
/-- over a list that the body leaves as it is -/
theorem for_list {K : PySem.W.Frag} {a : Addr} {xs : List V} {g : TG} {tb : TS} {D : Ends} {σ : St} {H : Hp} (Pv : Nat → St → Hp → Prop) (h0 : Pv 0 σ H) (hl : ∀ i σ H, i ≤ xs.length → Pv i σ H → SqL K H a xs)
    (hs : ∀ i x σ H, xs[i]? = some x → Pv i σ H → g x σ H fun σ2 H2 => tb { D with nx := Pv (i + 1), ct := Pv (i + 1), bk := D.nx } σ2 H2) (hd : ∀ σ H, Pv xs.length σ H → D.nx σ H) :
    ∃ W : Nat → Nat → St → Hp → Prop, (∃ m, W 0 m σ H) ∧ ∀ i m σ H, W i m σ H →
      ((Itl K a).stop i H ∧ D.nx σ H) ∨ ((Itl K a).go i H ∧ ∃ N : St → Hp → Prop, (∀ σ' H', N σ' H' → ∃ m', m' < m ∧ W (i + 1) m' σ' H') ∧ ∀ x H', (Itl K a).yld i H x H' → g x σ H' fun σ2 H2 => tb { D with nx := N, ct := N, bk := D.nx } σ2 H2) := by
  refine ⟨fun i m σ H => m = xs.length - i ∧ i ≤ xs.length ∧ Pv i σ H, ⟨xs.length, by simp, Nat.zero_le _, h0⟩, ?_⟩
  rintro i m σ H ⟨rfl, hi, p⟩
  have q := hl i σ H hi p
  by_cases hlt : i < xs.length
  · refine .inr ⟨⟨xs, xs[i], q, by simp [hlt]⟩, Pv (i + 1), fun σ' H' p' => ⟨xs.length - (i + 1), by omega, rfl, hlt, p'⟩, fun x H' y => ?_⟩
    obtain ⟨e, y⟩ := y
    subst e
    exact hs i x σ _ (y xs q) p
  · have e : i = xs.length := by omega
    subst e
    exact .inl ⟨⟨xs, q, Nat.le_refl _⟩, hd σ H p⟩
theorem for_tup {K : PySem.W.Frag} {a : Addr} {xs : List V} {g : TG} {tb : TS} {D : Ends} {σ : St} {H : Hp} (Pv : Nat → St → Hp → Prop) (h0 : Pv 0 σ H) (hl : ∀ i σ H, i ≤ xs.length → Pv i σ H → SqT K H a xs)
    (hs : ∀ i x σ H, xs[i]? = some x → Pv i σ H → g x σ H fun σ2 H2 => tb { D with nx := Pv (i + 1), ct := Pv (i + 1), bk := D.nx } σ2 H2) (hd : ∀ σ H, Pv xs.length σ H → D.nx σ H) :
    ∃ W : Nat → Nat → St → Hp → Prop, (∃ m, W 0 m σ H) ∧ ∀ i m σ H, W i m σ H →
      ((Itt K a).stop i H ∧ D.nx σ H) ∨ ((Itt K a).go i H ∧ ∃ N : St → Hp → Prop, (∀ σ' H', N σ' H' → ∃ m', m' < m ∧ W (i + 1) m' σ' H') ∧ ∀ x H', (Itt K a).yld i H x H' → g x σ H' fun σ2 H2 => tb { D with nx := N, ct := N, bk := D.nx } σ2 H2) := by
  refine ⟨fun i m σ H => m = xs.length - i ∧ i ≤ xs.length ∧ Pv i σ H, ⟨xs.length, by simp, Nat.zero_le _, h0⟩, ?_⟩
  rintro i m σ H ⟨rfl, hi, p⟩
  have q := hl i σ H hi p
  by_cases hlt : i < xs.length
  · refine .inr ⟨⟨xs, xs[i], q, by simp [hlt]⟩, Pv (i + 1), fun σ' H' p' => ⟨xs.length - (i + 1), by omega, rfl, hlt, p'⟩, fun x H' y => ?_⟩
    obtain ⟨e, y⟩ := y
    subst e
    exact hs i x σ _ (y xs q) p
  · have e : i = xs.length := by omega
    subst e
    exact .inl ⟨⟨xs, q, Nat.le_refl _⟩, hd σ H p⟩
theorem for_range {lo : Int} {n : Nat} {g : TG} {tb : TS} {D : Ends} {σ : St} {H : Hp} (Pv : Nat → St → Hp → Prop) (h0 : Pv 0 σ H)
    (hs : ∀ i σ H, i < n → Pv i σ H → g (.int (lo + i)) σ H fun σ2 H2 => tb { D with nx := Pv (i + 1), ct := Pv (i + 1), bk := D.nx } σ2 H2) (hd : ∀ σ H, Pv n σ H → D.nx σ H) :
    ∃ W : Nat → Nat → St → Hp → Prop, (∃ m, W 0 m σ H) ∧ ∀ i m σ H, W i m σ H →
      ((Itr lo n).stop i H ∧ D.nx σ H) ∨ ((Itr lo n).go i H ∧ ∃ N : St → Hp → Prop, (∀ σ' H', N σ' H' → ∃ m', m' < m ∧ W (i + 1) m' σ' H') ∧ ∀ x H', (Itr lo n).yld i H x H' → g x σ H' fun σ2 H2 => tb { D with nx := N, ct := N, bk := D.nx } σ2 H2) := by
  refine ⟨fun i m σ H => m = n - i ∧ i ≤ n ∧ Pv i σ H, ⟨n, by simp, Nat.zero_le _, h0⟩, ?_⟩
  rintro i m σ H ⟨rfl, hi, p⟩
  by_cases hlt : i < n
  · refine .inr ⟨hlt, Pv (i + 1), fun σ' H' p' => ⟨n - (i + 1), by omega, rfl, hlt, p'⟩, fun x H' y => ?_⟩
    obtain ⟨e, y⟩ := y
    subst e y
    exact hs i σ _ hlt p
  · have e : i = n := by omega
    subst e
    exact .inl ⟨Nat.le_refl _, hd σ H p⟩
/-- while, by a word and a measure of the state -/
theorem while_by {c : TT} {tb : TS} {D : Ends} {σ : St} {H : Hp} (Pv : St → Hp → Prop) (μ : St → Hp → Nat) (h0 : Pv σ H)
    (hs : ∀ σ H, Pv σ H → c σ H fun b H1 => if b = true then tb { D with nx := fun σ' H' => Pv σ' H' ∧ μ σ' H' < μ σ H, ct := fun σ' H' => Pv σ' H' ∧ μ σ' H' < μ σ H, bk := D.nx } σ H1 else D.nx σ H1)
    (mono : ∀ σ H Q Q', (∀ b H1, Q b H1 → Q' b H1) → c σ H Q → c σ H Q') : tWhile c tb D σ H := by
  refine ⟨fun m σ H => m = μ σ H ∧ Pv σ H, ⟨_, rfl, h0⟩, ?_⟩
  rintro m σ H ⟨rfl, p⟩
  refine mono σ H _ _ (fun b H1 q => ?_) (hs σ H p)
  cases b with
  | true => exact ⟨_, fun σ' H' ⟨p', l⟩ => ⟨_, l, rfl, p'⟩, q⟩
  | false => exact q
end L2

namespace L2
open PySem PySem.Spec PyProof.Rows

abbrev R2 := V → V → Hp → VK → Prop
/-- a two-place operation on values: f is binaryOp op, inplaceOp op or compareOp op -/
def OpR (X : Cx) (f : Value → Value → Sem Value) (r : R2) : Prop :=
  ∀ (pins : List (Addr × Obj)) (s : Shared) (σ : St) (H : Hp) (x y : V) (v u : Value) (Q : VK), Inv X pins σ H s → RelV x v → RelV y u → r x y H Q →
    wpAny (model X.prog X.w) X.A (f v u) (EP X pins σ Q) X.xe s
/-- a one-place operation -/
def UnR (X : Cx) (f : Value → Sem Value) (r : V → Hp → VK → Prop) : Prop :=
  ∀ (pins : List (Addr × Obj)) (s : Shared) (σ : St) (H : Hp) (x : V) (v : Value) (Q : VK), Inv X pins σ H s → RelV x v → r x H Q →
    wpAny (model X.prog X.w) X.A (f v) (EP X pins σ Q) X.xe s
/-- a call of a value that is known (a builtin, a type) with values -/
def CallR (X : Cx) (f : Value) (r : List V → Hp → VK → Prop) : Prop :=
  ∀ (pins : List (Addr × Obj)) (s : Shared) (σ : St) (H : Hp) (xs : List V) (us : List Value) (Q : VK), Inv X pins σ H s → Vals xs us → r xs H Q →
    wpAny (model X.prog X.w) X.A (call f us) (EP X pins σ Q) X.xe s
/-- a value's truth -/
def TruR (X : Cx) (r : V → Hp → (Bool → Hp → Prop) → Prop) : Prop :=
  ∀ (pins : List (Addr × Obj)) (s : Shared) (σ : St) (H : Hp) (x : V) (v : Value) (Q : Bool → Hp → Prop), Inv X pins σ H s → RelV x v → r x H Q →
    wpAny (model X.prog X.w) X.A (truthy v) (TP X pins σ Q) X.xe s

def tOp (r : R2) (ta tb : TE) : TE := fun σ H Q => ta σ H fun x H1 => tb σ H1 fun y H2 => r x y H2 Q
def tUn (r : V → Hp → VK → Prop) (ta : TE) : TE := fun σ H Q => ta σ H fun x H1 => r x H1 Q
/-- ints in, under C, and a value out -/
def rI (C : Int → Int → Prop) (g : Int → Int → V) : R2 := fun x y H Q => ∃ i j, x = .int i ∧ y = .int j ∧ C i j ∧ Q (g i j) H
def rI0 (g : Int → Int → V) : R2 := fun x y H Q => ∃ i j, x = .int i ∧ y = .int j ∧ Q (g i j) H
def rU (g : Int → V) : V → Hp → VK → Prop := fun x H Q => ∃ i, x = .int i ∧ Q (g i) H

section
variable {X : Cx} {a b c : Expr} {ta tb tc : TE} {pos : Pos}

theorem binT (ha : PE X a ta) (hb : PE X b tb) {pins : List (Addr × Obj)} {s : Shared} {σ : St} {H : Hp} {R : V → V → Hp → Prop} (I : Inv X pins σ H s)
    (h : ta σ H fun x H1 => tb σ H1 fun y H2 => R x y H2) {Q : Value → Shared → Prop} {f : Value → Value → Sem Value}
    (hf : ∀ v u s2 x y H2, Inv X pins σ H2 s2 → RelV x v → RelV y u → R x y H2 → wpAny (model X.prog X.w) X.A (f v u) Q X.xe s2) :
    wpAny (model X.prog X.w) X.A (eval a X.env) (fun v s₁ => wpAny (model X.prog X.w) X.A (eval b X.env) (fun u s₂ => wpAny (model X.prog X.w) X.A (f v u) Q X.xe s₂) X.xe s₁) X.xe s := by
  refine thn (ha pins s σ H _ I h) fun v s1 ⟨x, H1, I1, r1, q1⟩ => ?_
  refine thn (hb pins s1 σ H1 _ I1 q1) fun u s2 ⟨y, H2, I2, r2, q2⟩ => ?_
  exact hf v u s2 x y H2 I2 r1 r2 q2

theorem pe_op {op : Operator} {r : R2} (ho : OpR X (binaryOp op) r) (ha : PE X a ta) (hb : PE X b tb) : PE X (.BinOp a op b pos) (tOp r ta tb) := by
  intro pins s σ H Q I h
  exact wpAny_BinOp (binT ha hb I h fun v u s2 x y H2 I2 rx ry q => ho pins s2 σ H2 x y v u Q I2 rx ry q)
theorem pe_un {op : UnaryOp} {r : V → Hp → VK → Prop} (ho : UnR X (unaryOp op) r) (ha : PE X a ta) : PE X (.UnaryOp op a pos) (tUn r ta) := by
  intro pins s σ H Q I h
  exact UnaryOp_ (thn (ha pins s σ H _ I h) fun v s1 ⟨x, H1, I1, r1, q1⟩ => ho pins s1 σ H1 x v Q I1 r1 q1)
/-- a op= e at a name: the name's slot i -/
theorem augR {op : Operator} {r : R2} (ho : OpR X (inplaceOp op) r) {pins : List (Addr × Obj)} {s : Shared} {σ : St} {H : Hp} {x y : V} {v u : Value} {Q : VK} (I : Inv X pins σ H s)
    (rx : RelV x v) (ry : RelV y u) (q : r x y H Q) : wpAny (model X.prog X.w) X.A (inplaceOp op v u) (EP X pins σ Q) X.xe s := ho pins s σ H x y v u Q I rx ry q

/-! ### ints -/
theorem opI {f : Value → Value → Sem Value} {C : Int → Int → Prop} {g : Int → Int → Int}
    (rule : ∀ (i j : Int) (t u : Tok) (s : Shared) (Q : Value → Shared → Prop) (E : Value → Shared → Prop), C i j → Q (.int (g i j) s.toks) { s with toks := s.toks + 1 } → wpAny (model X.prog X.w) X.A (f (.int i t) (.int j u)) Q E s) :
    OpR X f (rI C fun i j => .int (g i j)) := by
  intro pins s σ H x y v u Q I rx ry h
  obtain ⟨i, j, rfl, rfl, hc, q⟩ := h
  obtain ⟨t, rfl⟩ := rx
  obtain ⟨t', rfl⟩ := ry
  exact rule i j t t' s _ _ hc ⟨.int (g i j), H, I.tok _, ⟨_, rfl⟩, q⟩
theorem opI0 {f : Value → Value → Sem Value} {g : Int → Int → Int}
    (rule : ∀ (i j : Int) (t u : Tok) (s : Shared) (Q : Value → Shared → Prop) (E : Value → Shared → Prop), Q (.int (g i j) s.toks) { s with toks := s.toks + 1 } → wpAny (model X.prog X.w) X.A (f (.int i t) (.int j u)) Q E s) :
    OpR X f (rI0 fun i j => .int (g i j)) := by
  intro pins s σ H x y v u Q I rx ry h
  obtain ⟨i, j, rfl, rfl, q⟩ := h
  obtain ⟨t, rfl⟩ := rx
  obtain ⟨t', rfl⟩ := ry
  exact rule i j t t' s _ _ ⟨.int (g i j), H, I.tok _, ⟨_, rfl⟩, q⟩
theorem opB0 {f : Value → Value → Sem Value} {g : Int → Int → Bool}
    (rule : ∀ (i j : Int) (t u : Tok) (s : Shared) (Q : Value → Shared → Prop) (E : Value → Shared → Prop), Q (.bool (g i j)) s → wpAny (model X.prog X.w) X.A (f (.int i t) (.int j u)) Q E s) :
    OpR X f (rI0 fun i j => .bl (g i j)) := by
  intro pins s σ H x y v u Q I rx ry h
  obtain ⟨i, j, rfl, rfl, q⟩ := h
  obtain ⟨t, rfl⟩ := rx
  obtain ⟨t', rfl⟩ := ry
  exact rule i j t t' s _ _ ⟨.bl (g i j), H, I, rfl, q⟩

def CDiv (i j : Int) : Prop := 0 < j ∧ j < 1073741824
def CDivN (i j : Int) : Prop := j ≠ 0 ∧ j.natAbs < 1073741824
def CPow (i j : Int) : Prop := 0 ≤ j ∧ j ≤ 1000000 ∧ i.natAbs < 2 ^ 64
def CMul (i j : Int) : Prop := (-(2 ^ 64) < i ∧ i < 2 ^ 64) ∨ (-(2 ^ 64) < j ∧ j < 2 ^ 64)
theorem CMul.ok {i j : Int} (h : CMul i j) : IntMulOk i j := by
  rcases h with ⟨h1, h2⟩ | ⟨h1, h2⟩
  · exact .of_left (intBits_le_64 h1 h2)
  · exact .of_right (intBits_le_64 h1 h2)
theorem two_pow_nn (k : Nat) : (0 : Int) ≤ 2 ^ k := by
  rw [two_pow_cast]
  exact Int.natCast_nonneg _

theorem op_add : OpR X (binaryOp .Add) (rI0 fun i j => .int (i + j)) := opI0 fun _ _ _ _ _ _ _ q => add_int q
theorem op_sub : OpR X (binaryOp .Sub) (rI0 fun i j => .int (i - j)) := opI0 fun _ _ _ _ _ _ _ q => sub_int q
theorem op_mul : OpR X (binaryOp .Mult) (rI CMul fun i j => .int (i * j)) := opI fun _ _ _ _ _ _ _ hc q => mul_int q hc.ok
/-- // by a positive divisor -/
theorem op_fdiv : OpR X (binaryOp .FloorDiv) (rI CDiv fun i j => .int (i / j)) := opI fun i j _ _ _ _ _ hc q => by
  have h1 : (0 : Int) < j := hc.1
  have h2 : j < 1073741824 := hc.2
  exact floordiv_int (by omega) (by rw [Int.fdiv_eq_ediv_of_nonneg i (by omega)]; exact q) (.inl (PyProof.noPylong_small (by omega)))
theorem op_fdivN : OpR X (binaryOp .FloorDiv) (rI CDivN fun i j => .int (i.fdiv j)) := opI fun _ _ _ _ _ _ _ hc q => floordiv_int hc.1 q (.inl (PyProof.noPylong_small hc.2))
/-- % by a positive divisor of any size -/
theorem op_mod : OpR X (binaryOp .Mod) (rI (fun _ j => 0 < j) fun i j => .int (i % j)) := opI fun i j _ _ _ _ _ hc q => by
  have h1 : (0 : Int) < j := hc
  exact mod_int' (by omega) (by rw [Int.fmod_eq_emod_of_nonneg i (by omega)]; exact q)
theorem op_modN : OpR X (binaryOp .Mod) (rI (fun _ j => j ≠ 0) fun i j => .int (i.fmod j)) := opI fun _ _ _ _ _ _ _ hc q => mod_int' hc q
theorem op_pow : OpR X (binaryOp .Pow) (rI CPow fun i j => .int (i ^ j.toNat)) := opI fun _ _ _ _ _ _ _ hc q => pow_int_small hc.1 hc.2.1 hc.2.2 q
theorem op_shl : OpR X (binaryOp .LShift) (rI CPow fun i j => .int (i * 2 ^ j.toNat)) := opI fun _ _ _ _ _ _ _ hc q => lshift_int_small hc.1 hc.2.1 hc.2.2 q
theorem op_shr : OpR X (binaryOp .RShift) (rI (fun _ j => 0 ≤ j) fun i j => .int (i / 2 ^ j.toNat)) := opI fun i j _ _ _ _ _ hc q =>
  rshift_int hc (by rw [Int.fdiv_eq_ediv_of_nonneg i (two_pow_nn _)]; exact q)
theorem op_and : OpR X (binaryOp .BitAnd) (rI0 fun i j => .int (Builtin.bitAnd i j)) := opI0 fun _ _ _ _ _ _ _ q => and_int q
theorem op_or : OpR X (binaryOp .BitOr) (rI0 fun i j => .int (Builtin.bitOr i j)) := opI0 fun _ _ _ _ _ _ _ q => or_int q
theorem op_xor : OpR X (binaryOp .BitXor) (rI0 fun i j => .int (Builtin.bitXor i j)) := opI0 fun _ _ _ _ _ _ _ q => xor_int q

theorem iop_add : OpR X (inplaceOp .Add) (rI0 fun i j => .int (i + j)) := opI0 fun _ _ _ _ _ _ _ q => iadd_int q
theorem iop_sub : OpR X (inplaceOp .Sub) (rI0 fun i j => .int (i - j)) := opI0 fun _ _ _ _ _ _ _ q => isub_int q
theorem iop_mul : OpR X (inplaceOp .Mult) (rI CMul fun i j => .int (i * j)) := opI fun _ _ _ _ _ _ _ hc q => imul_int q hc.ok
theorem iop_fdiv : OpR X (inplaceOp .FloorDiv) (rI CDiv fun i j => .int (i / j)) := opI fun i j _ _ _ _ _ hc q => by
  have h1 : (0 : Int) < j := hc.1
  have h2 : j < 1073741824 := hc.2
  exact ifloordiv_int (by omega) (by rw [Int.fdiv_eq_ediv_of_nonneg i (by omega)]; exact q) (.inl (PyProof.noPylong_small (by omega)))
theorem iop_mod : OpR X (inplaceOp .Mod) (rI (fun _ j => 0 < j) fun i j => .int (i % j)) := opI fun i j _ _ _ _ _ hc q => by
  have h1 : (0 : Int) < j := hc
  exact imod_int (by omega) (by rw [Int.fmod_eq_emod_of_nonneg i (by omega)]; exact q)
theorem iop_shl : OpR X (inplaceOp .LShift) (rI CPow fun i j => .int (i * 2 ^ j.toNat)) := opI fun _ _ _ _ _ _ _ hc q => ilshift_int_small hc.1 hc.2.1 hc.2.2 q
theorem iop_shr : OpR X (inplaceOp .RShift) (rI (fun _ j => 0 ≤ j) fun i j => .int (i / 2 ^ j.toNat)) := opI fun i j _ _ _ _ _ hc q =>
  irshift_int hc (by rw [Int.fdiv_eq_ediv_of_nonneg i (two_pow_nn _)]; exact q)
theorem iop_and : OpR X (inplaceOp .BitAnd) (rI0 fun i j => .int (Builtin.bitAnd i j)) := opI0 fun _ _ _ _ _ _ _ q => iand_int q
theorem iop_or : OpR X (inplaceOp .BitOr) (rI0 fun i j => .int (Builtin.bitOr i j)) := opI0 fun _ _ _ _ _ _ _ q => ior_int q
theorem iop_xor : OpR X (inplaceOp .BitXor) (rI0 fun i j => .int (Builtin.bitXor i j)) := opI0 fun _ _ _ _ _ _ _ q => ixor_int q

theorem unI {f : Value → Sem Value} {g : Int → Int}
    (rule : ∀ (i : Int) (t : Tok) (s : Shared) (Q : Value → Shared → Prop) (E : Value → Shared → Prop), Q (.int (g i) s.toks) { s with toks := s.toks + 1 } → wpAny (model X.prog X.w) X.A (f (.int i t)) Q E s) :
    UnR X f (rU fun i => .int (g i)) := by
  intro pins s σ H x v Q I rx h
  obtain ⟨i, rfl, q⟩ := h
  obtain ⟨t, rfl⟩ := rx
  exact rule i t s _ _ ⟨.int (g i), H, I.tok _, ⟨_, rfl⟩, q⟩
theorem un_neg : UnR X (unaryOp .USub) (rU fun i => .int (-i)) := unI fun _ _ _ _ _ q => neg_int q
theorem un_inv : UnR X (unaryOp .Invert) (rU fun i => .int (Builtin.bitNot i)) := unI fun _ _ _ _ _ q => invert_int q

/-! ### bools among ints: n += (a < b) -/
theorem op_add_ib : OpR X (binaryOp .Add) (fun x y H Q => ∃ i k, x = .int i ∧ y = .bl k ∧ Q (.int (i + b2i k)) H) := by
  intro pins s σ H x y v u Q I rx ry h
  obtain ⟨i, k, rfl, rfl, q⟩ := h
  obtain ⟨t, rfl⟩ := rx
  cases ry
  exact add_int_bool ⟨.int (i + b2i k), H, I.tok _, ⟨_, rfl⟩, q⟩
end

/-! ### comparisons -/
/-- the scalars that == tells apart as data does -/
def scal : V → V → Bool
  | .non, .non => true | .non, .int _ => true | .int _, .non => true | .non, .bl _ => true | .bl _, .non => true | .non, .str _ => true | .str _, .non => true
  | .int _, .int _ => true | .bl _, .bl _ => true | .str _, .str _ => true | .byt _, .byt _ => true
  | .int _, .str _ => true | .str _, .int _ => true | .bl _, .str _ => true | .str _, .bl _ => true
  | _, _ => false
def rEq : R2 := fun x y H Q => scal x y = true ∧ Q (.bl (decide (x = y))) H
def rNe : R2 := fun x y H Q => scal x y = true ∧ Q (.bl (!decide (x = y))) H

theorem dec_int {i j : Int} : decide (V.int i = V.int j) = (i == j) := by
  rw [Bool.eq_iff_iff]
  simp
theorem dec_bl {i j : Bool} : decide (V.bl i = V.bl j) = (i == j) := by
  rw [Bool.eq_iff_iff]
  simp
theorem dec_str {i j : Str} : decide (V.str i = V.str j) = (i == j) := by
  rw [Bool.eq_iff_iff]
  simp
theorem dec_byt {i j : Array UInt8} : decide (V.byt i = V.byt j) = (i.toList == j.toList) := by
  rw [Bool.eq_iff_iff]
  cases i
  cases j
  simp

section
variable {X : Cx} {a b c : Expr} {ta tb tc : TE} {pos : Pos}
theorem fin_bl {pins : List (Addr × Obj)} {σ : St} {H : Hp} {s : Shared} {Q : VK} {k k' : Bool} (I : Inv X pins σ H s) (q : Q (.bl k) H) (e : k = k') : EP X pins σ Q (.bool k') s := by
  subst e
  exact ⟨.bl k, H, I, rfl, q⟩
theorem op_eq : OpR X (compareOp .Eq) rEq := by
  intro pins s σ H x y v u Q I rx ry h
  obtain ⟨hs, q⟩ := h
  cases x with
  | non =>
    cases rx
    cases y with
    | non => cases ry; exact PySem.EqNone.eq_none_none (fin_bl I q (by simp))
    | bl j => cases ry; exact PySem.EqNone.eq_none_bool (fin_bl I q (by simp))
    | int j => obtain ⟨t', rfl⟩ := ry; exact PySem.EqNone.eq_none_int (fin_bl I q (by simp))
    | str j => obtain ⟨t', rfl⟩ := ry; exact PySem.EqNone.eq_none_str (fin_bl I q (by simp))
    | _ => exact absurd (show false = true from hs) Bool.false_ne_true
  | bl i =>
    cases rx
    cases y with
    | non => cases ry; exact PySem.EqNone.eq_bool_none (fin_bl I q (by simp))
    | bl j => cases ry; exact eq_bool (fin_bl I q dec_bl)
    | str j => obtain ⟨t', rfl⟩ := ry; exact PySem.EqMixed.eq_bool_str (fin_bl I q (by simp))
    | _ => exact absurd (show false = true from hs) Bool.false_ne_true
  | int i =>
    obtain ⟨t, rfl⟩ := rx
    cases y with
    | non => cases ry; exact PySem.EqNone.eq_int_none (fin_bl I q (by simp))
    | int j => obtain ⟨t', rfl⟩ := ry; exact eq_int (fin_bl I q dec_int)
    | str j => obtain ⟨t', rfl⟩ := ry; exact PySem.EqMixed.eq_int_str (fin_bl I q (by simp))
    | _ => exact absurd (show false = true from hs) Bool.false_ne_true
  | str i =>
    obtain ⟨t, rfl⟩ := rx
    cases y with
    | non => cases ry; exact PySem.EqNone.eq_str_none (fin_bl I q (by simp))
    | bl j => cases ry; exact PySem.EqMixed.eq_str_bool (fin_bl I q (by simp))
    | int j => obtain ⟨t', rfl⟩ := ry; exact PySem.EqMixed.eq_str_int (fin_bl I q (by simp))
    | str j => obtain ⟨t', rfl⟩ := ry; exact eq_str (fin_bl I q dec_str)
    | _ => exact absurd (show false = true from hs) Bool.false_ne_true
  | byt i =>
    obtain ⟨t, rfl⟩ := rx
    cases y with
    | byt j => obtain ⟨t', rfl⟩ := ry; exact PySem.W.eq_bytes (fin_bl I q dec_byt)
    | _ => exact absurd (show false = true from hs) Bool.false_ne_true
  | _ => cases y <;> exact absurd (show false = true from hs) Bool.false_ne_true
theorem op_ne : OpR X (compareOp .NotEq) rNe := by
  intro pins s σ H x y v u Q I rx ry h
  obtain ⟨hs, q⟩ := h
  cases x with
  | non =>
    cases rx
    cases y with
    | non => cases ry; exact PySem.EqNone.ne_none_none (fin_bl I q (by simp))
    | bl j => cases ry; exact PySem.EqNone.ne_none_bool (fin_bl I q (by simp))
    | int j => obtain ⟨t', rfl⟩ := ry; exact PySem.EqNone.ne_none_int (fin_bl I q (by simp))
    | str j => obtain ⟨t', rfl⟩ := ry; exact PySem.EqNone.ne_none_str (fin_bl I q (by simp))
    | _ => exact absurd (show false = true from hs) Bool.false_ne_true
  | bl i =>
    cases rx
    cases y with
    | non => cases ry; exact PySem.EqNone.ne_bool_none (fin_bl I q (by simp))
    | bl j => cases ry; exact ne_bool (fin_bl I q (congrArg not dec_bl))
    | str j => obtain ⟨t', rfl⟩ := ry; exact PySem.EqMixed.ne_bool_str (fin_bl I q (by simp))
    | _ => exact absurd (show false = true from hs) Bool.false_ne_true
  | int i =>
    obtain ⟨t, rfl⟩ := rx
    cases y with
    | non => cases ry; exact PySem.EqNone.ne_int_none (fin_bl I q (by simp))
    | int j => obtain ⟨t', rfl⟩ := ry; exact ne_int (fin_bl I q (congrArg not dec_int))
    | str j => obtain ⟨t', rfl⟩ := ry; exact PySem.EqMixed.ne_int_str (fin_bl I q (by simp))
    | _ => exact absurd (show false = true from hs) Bool.false_ne_true
  | str i =>
    obtain ⟨t, rfl⟩ := rx
    cases y with
    | non => cases ry; exact PySem.EqNone.ne_str_none (fin_bl I q (by simp))
    | bl j => cases ry; exact PySem.EqMixed.ne_str_bool (fin_bl I q (by simp))
    | int j => obtain ⟨t', rfl⟩ := ry; exact PySem.EqMixed.ne_str_int (fin_bl I q (by simp))
    | str j => obtain ⟨t', rfl⟩ := ry; exact ne_str (fin_bl I q (congrArg not dec_str))
    | _ => exact absurd (show false = true from hs) Bool.false_ne_true
  | byt i =>
    obtain ⟨t, rfl⟩ := rx
    cases y with
    | byt j => obtain ⟨t', rfl⟩ := ry; exact PySem.W.ne_bytes (fin_bl I q (congrArg not dec_byt))
    | _ => exact absurd (show false = true from hs) Bool.false_ne_true
  | _ => cases y <;> exact absurd (show false = true from hs) Bool.false_ne_true

theorem op_lt : OpR X (compareOp .Lt) (rI0 fun i j => .bl (decide (i < j))) := opB0 fun _ _ _ _ _ _ _ q => lt_int q
theorem op_le : OpR X (compareOp .LtE) (rI0 fun i j => .bl (decide (i ≤ j))) := opB0 fun _ _ _ _ _ _ _ q => le_int q
theorem op_gt : OpR X (compareOp .Gt) (rI0 fun i j => .bl (decide (j < i))) := opB0 fun _ _ _ _ _ _ _ q => gt_int q
theorem op_ge : OpR X (compareOp .GtE) (rI0 fun i j => .bl (decide (j ≤ i))) := opB0 fun _ _ _ _ _ _ _ q => ge_int q
theorem op_lt_str : OpR X (compareOp .Lt) (fun x y H Q => ∃ i j, x = .str i ∧ y = .str j ∧ Q (.bl (decide (i.cps.toList < j.cps.toList))) H) := by
  intro pins s σ H x y v u Q I rx ry h
  obtain ⟨i, j, rfl, rfl, q⟩ := h
  obtain ⟨t, rfl⟩ := rx
  obtain ⟨t', rfl⟩ := ry
  exact lt_str (fin_bl I q rfl)
/-- the one string within the other -/
theorem op_in_str : OpR X (compareOp .In) (fun x y H Q => ∃ i j, x = .str i ∧ y = .str j ∧ Q (.bl (!(Builtin.Str.occurrences j i 0 j.length 1).isEmpty)) H) := by
  intro pins s σ H x y v u Q I rx ry h
  obtain ⟨i, j, rfl, rfl, q⟩ := h
  obtain ⟨t, rfl⟩ := rx
  obtain ⟨t', rfl⟩ := ry
  exact in_str (fin_bl I q rfl)

/-- is None, is not None: the right side a value none -/
theorem op_isN : OpR X (compareOp .Is) (fun x y H Q => y = .non ∧ Q (.bl (decide (x = .non))) H) := by
  intro pins s σ H x y v u Q I rx ry h
  obtain ⟨rfl, q⟩ := h
  cases ry
  refine is_none_gen (fin_bl I q ?_)
  cases x <;> first
    | (cases rx; rfl)
    | (obtain ⟨t, rfl⟩ := rx; rfl)
theorem op_notN : OpR X (compareOp .IsNot) (fun x y H Q => y = .non ∧ Q (.bl (!decide (x = .non))) H) := by
  intro pins s σ H x y v u Q I rx ry h
  obtain ⟨rfl, q⟩ := h
  cases ry
  refine isnot_none_gen (fin_bl I q ?_)
  cases x <;> first
    | (cases rx; rfl)
    | (obtain ⟨t, rfl⟩ := rx; rfl)

theorem op_notin_str : OpR X (compareOp .NotIn) (fun x y H Q => ∃ i j, x = .str i ∧ y = .str j ∧ Q (.bl (!(!(Builtin.Str.occurrences j i 0 j.length 1).isEmpty))) H) := by
  intro pins s σ H x y v u Q I rx ry h
  obtain ⟨i, j, rfl, rfl, q⟩ := h
  obtain ⟨t, rfl⟩ := rx
  obtain ⟨t', rfl⟩ := ry
  exact notIn_str (fin_bl I q rfl)
/-- is, is not of two objects that are tracked lists or instances -/
def isObj : HO → Bool
  | .lst _ => true
  | .ins _ _ _ => true
  | _ => false
theorem obj_there {pins : List (Addr × Obj)} {s : Shared} {σ : St} {H : Hp} {a : Addr} {o : HO} (I : Inv X pins σ H s) (h : H a = some o) (p : isObj o = true) : ∃ ob, s.heap.get? a = some ob ∧ ob.cls ≠ .type "tuple" := by
  cases o with
  | lst xs =>
    obtain ⟨_, its, n, _, e⟩ : xs.length ≤ sizeLine ∧ ∃ (its : List Value) (n : Nat), Vals xs its ∧ s.heap.get? a = some { cls := .type "list", data := .seq its.toArray n } := I.hok a _ h
    exact ⟨_, e, (by show Value.type "list" ≠ .type "tuple"; decide +kernel)⟩
  | ins C dx fs =>
    have x := I.hok a _ h
    obtain ⟨_, _, _, e, _⟩ := x
    exact ⟨_, e, (by show Value.ref C ≠ .type "tuple"; exact fun z => by cases z)⟩
  | _ => exact absurd (show false = true from p) Bool.false_ne_true
theorem op_is_ref : OpR X (compareOp .Is) (fun x y H Q => ∃ a b oa ob, x = .ref a ∧ y = .ref b ∧ H a = some oa ∧ isObj oa = true ∧ H b = some ob ∧ isObj ob = true ∧ Q (.bl (decide (a = b))) H) := by
  intro pins s σ H x y v u Q I rx ry h
  obtain ⟨a, b, oa, ob, rfl, rfl, ha, pa, hb, pb, q⟩ := h
  cases rx
  cases ry
  obtain ⟨o1, e1, n1⟩ := obj_there I ha pa
  obtain ⟨o2, e2, _⟩ := obj_there I hb pb
  by_cases z : a = b
  · subst z
    exact wpAny_is_ref_self (fin_bl I q (by simp))
  · exact wpAny_is_ref_other z e1 e2 n1 (fin_bl I q (by simp [z]))
theorem op_isnot_ref : OpR X (compareOp .IsNot) (fun x y H Q => ∃ a b oa ob, x = .ref a ∧ y = .ref b ∧ H a = some oa ∧ isObj oa = true ∧ H b = some ob ∧ isObj ob = true ∧ Q (.bl (!decide (a = b))) H) := by
  intro pins s σ H x y v u Q I rx ry h
  obtain ⟨a, b, oa, ob, rfl, rfl, ha, pa, hb, pb, q⟩ := h
  cases rx
  cases ry
  obtain ⟨o1, e1, n1⟩ := obj_there I ha pa
  obtain ⟨o2, e2, _⟩ := obj_there I hb pb
  by_cases z : a = b
  · subst z
    exact wpAny_isNot_ref_self (fin_bl I q (by simp))
  · exact wpAny_isNot_ref_other z e1 e2 n1 (fin_bl I q (by simp [z]))

/-- two rules for one operation: by cases -/
theorem OpR.or {f : Value → Value → Sem Value} {r r' : R2} (h : OpR X f r) (h' : OpR X f r') : OpR X f (fun x y H Q => r x y H Q ∨ r' x y H Q) := by
  intro pins s σ H x y v u Q I rx ry q
  rcases q with q | q
  · exact h pins s σ H x y v u Q I rx ry q
  · exact h' pins s σ H x y v u Q I rx ry q

theorem nomark (b : Expr) {op : CmpOp} (h : op ≠ .In := by decide) (h2 : op ≠ .NotIn := by decide) : behindInMarks op b = false := by
  have e1 : (op == CmpOp.In) = false := by cases op <;> first | rfl | exact absurd rfl h
  have e2 : (op == CmpOp.NotIn) = false := by cases op <;> first | rfl | exact absurd rfl h2
  cases b <;> simp [behindInMarks, e1, e2]
/-- a comparison as a value; hm: nomark b, or (for in, not in) by with_unfolding_all rfl -/
theorem pe_cmpR {op : CmpOp} {r : R2} (ho : OpR X (compareOp op) r) (ha : PE X a ta) (hb : PE X b tb) (hm : behindInMarks op b = false) : PE X (.Compare a [op] [b] pos) (tOp r ta tb) := by
  intro pins s σ H Q I h
  exact wpAny_Compare1 (binT ha hb I h fun v u s2 x y H2 I2 rx ry q => ho pins s2 σ H2 x y v u Q I2 rx ry q) hm
/-- a reading of a value as a test -/
def tTest (t : TE) : TT := fun σ H Q => t σ H fun x H' => ∃ k, x = .bl k ∧ Q k H'
theorem pt_cmpR {op : CmpOp} {r : R2} (ho : OpR X (compareOp op) r) (ha : PE X a ta) (hb : PE X b tb) (hm : behindInMarks op b = false) : PT X (.Compare a [op] [b] pos) (tTest (tOp r ta tb)) := by
  intro pins s σ H Q I h
  refine wpAny_isTrue_Compare1 (thn (ha pins s σ H _ I h) fun v s1 ⟨x, H1, I1, r1, q1⟩ => thn (hb pins s1 σ H1 _ I1 q1) fun u s2 ⟨y, H2, I2, r2, q2⟩ =>
    thn (ho pins s2 σ H2 x y v u _ I2 r1 r2 q2) fun c s3 ⟨z, H3, I3, r3, k, e, q3⟩ => ?_) hm
  subst e
  cases r3
  exact wpAny_truthy_bool ⟨H3, I3, q3⟩
/-- a op1 b op2 c -/
def tChain (r r' : R2) (ta tb tc : TE) : TE := fun σ H Q => ta σ H fun x H1 => tb σ H1 fun y H2 => r x y H2 fun z H3 => ∃ k, z = .bl k ∧
  (if k = true then tc σ H3 fun w' H4 => r' y w' H4 Q else Q (.bl false) H3)
theorem pe_chain {op op' : CmpOp} {r r' : R2} (ho : OpR X (compareOp op) r) (ho' : OpR X (compareOp op') r') (ha : PE X a ta) (hb : PE X b tb) (hc : PE X c tc)
    (hm : lastMarks [op, op'] [b, c] = false := by with_unfolding_all rfl) : PE X (.Compare a [op, op'] [b, c] pos) (tChain r r' ta tb tc) := by
  intro pins s σ H Q I h
  refine Compare_chain (thn (ha pins s σ H _ I h) fun v s1 ⟨x, H1, I1, r1, q1⟩ => chain_link (thn (hb pins s1 σ H1 _ I1 q1) fun u s2 ⟨y, H2, I2, r2, q2⟩ =>
    thn (ho pins s2 σ H2 x y v u _ I2 r1 r2 q2) fun d s3 ⟨z, H3, I3, r3, k, e, q3⟩ => ?_)) hm
  subst e
  cases r3
  refine wpAny_truthy_bool ?_
  cases k with
  | false => exact ite_ff ⟨.bl false, H3, I3, rfl, q3⟩
  | true => exact ite_tt (chain_last (thn (hc pins s3 σ H3 _ I3 q3) fun w' s4 ⟨z', H4, I4, r4, q4⟩ => ho' pins s4 σ H4 y z' u w' Q I4 r2 r4 q4))
theorem pt_chain {op op' : CmpOp} {r r' : R2} (ho : OpR X (compareOp op) r) (ho' : OpR X (compareOp op') r') (ha : PE X a ta) (hb : PE X b tb) (hc : PE X c tc)
    (hm : lastMarks [op, op'] [b, c] = false := by with_unfolding_all rfl) : PT X (.Compare a [op, op'] [b, c] pos) (tTest (tChain r r' ta tb tc)) := by
  intro pins s σ H Q I h
  refine isTrue_chain (thn (ha pins s σ H _ I h) fun v s1 ⟨x, H1, I1, r1, q1⟩ => test_link (thn (hb pins s1 σ H1 _ I1 q1) fun u s2 ⟨y, H2, I2, r2, q2⟩ =>
    thn (ho pins s2 σ H2 x y v u _ I2 r1 r2 q2) fun d s3 ⟨z, H3, I3, r3, k, e, q3⟩ => ?_)) hm
  subst e
  cases r3
  refine wpAny_truthy_bool ?_
  cases k with
  | false =>
    obtain ⟨k', e', q'⟩ := q3
    cases e'
    exact ite_ff ⟨H3, I3, q'⟩
  | true =>
    refine ite_tt (test_last (thn (hc pins s3 σ H3 _ I3 q3) fun w' s4 ⟨z', H4, I4, r4, q4⟩ => thn (ho' pins s4 σ H4 y z' u w' _ I4 r2 r4 q4) fun d' s5 ⟨z2, H5, I5, r5, k2, e2, q5⟩ => ?_))
    subst e2
    cases r5
    exact wpAny_truthy_bool ⟨H5, I5, q5⟩

/-! ### truth -/
/-- a value's truth by the abstract heap -/
def TruV (K : PySem.W.Frag) (x : V) (H : Hp) (k : Bool) : Prop :=
  match x with
  | .non => k = false
  | .bl b => k = b
  | .int i => k = (i != 0)
  | .str y => y.length ≤ sizeLine ∧ k = ((y.length : Int) != 0)
  | .byt y => y.size ≤ sizeLine ∧ k = ((y.size : Int) != 0)
  | .ref p => (∃ xs, SqL K H p xs ∧ k = !xs.isEmpty) ∨ (∃ xs, SqT K H p xs ∧ k = !xs.isEmpty) ∨ ∃ kvs, H p = some (.dK kvs) ∧ k = !kvs.isEmpty
  | _ => False
theorem isEmpty_kv {κ : Type} {kvs : List (κ × V)} {vs : List (κ × Value)} (r : KV kvs vs) : (!vs.isEmpty) = !kvs.isEmpty := by
  cases r <;> rfl
theorem isEmpty_of {xs : List V} {its : List Value} (r : Vals xs its) : (!its.toArray.isEmpty) = !xs.isEmpty := by
  cases r <;> simp
theorem line63 : (sizeLine : Nat) < 2 ^ 63 := by rw [sizeLine_eq]; decide
theorem tru_ok : TruR X (fun x H Q => ∃ k, TruV X.K x H k ∧ Q k H) := by
  intro pins s σ H x v Q I rx h
  obtain ⟨k, e, q⟩ := h
  have hl := line63
  have hs : sizeLine = 16777216 := sizeLine_eq
  cases x with
  | non =>
    cases rx
    have e' : k = false := e
    subst e'
    exact truthy_none ⟨H, I, q⟩
  | bl b =>
    cases rx
    have e' : k = b := e
    subst e'
    exact wpAny_truthy_bool ⟨H, I, q⟩
  | int i =>
    obtain ⟨t, rfl⟩ := rx
    have e' : k = (i != 0) := e
    subst e'
    exact PySem.P.truthy_int ⟨H, I, q⟩
  | str y =>
    obtain ⟨t, rfl⟩ := rx
    obtain ⟨hy, e'⟩ : y.length ≤ sizeLine ∧ k = ((y.length : Int) != 0) := e
    subst e'
    exact PySem.P.truthy_str (by omega) ⟨H, I.tok _, q⟩
  | byt y =>
    obtain ⟨t, rfl⟩ := rx
    obtain ⟨hy, e'⟩ : y.size ≤ sizeLine ∧ k = ((y.size : Int) != 0) := e
    subst e'
    exact PySem.W.truthy_bytes (by omega) ⟨H, I.tok _, q⟩
  | ref p =>
    cases rx
    have e' : (∃ xs, SqL X.K H p xs ∧ k = !xs.isEmpty) ∨ (∃ xs, SqT X.K H p xs ∧ k = !xs.isEmpty) ∨ ∃ kvs, H p = some (.dK kvs) ∧ k = !kvs.isEmpty := e
    rcases e' with ⟨xs, hx, e'⟩ | ⟨xs, hx, e'⟩ | ⟨kvs, hx, e'⟩
    · subst e'
      obtain ⟨its, r, pl, hz⟩ := I.list hx
      have hlen := r.length
      exact wpAny_truthy_list pl.isList (by simp only [List.size_toArray]; omega) ⟨H, I.tok _, by rw [isEmpty_of r]; exact q⟩
    · subst e'
      obtain ⟨its, r, pl, hz⟩ := I.tuple hx
      have hlen := r.length
      exact truthy_tuple pl (by simp only [List.size_toArray]; omega) ⟨H, I.tok _, by rw [isEmpty_of r]; exact q⟩
    · subst e'
      obtain ⟨hz, hS, vs, r, m⟩ : kvs.length ≤ sizeLine ∧ (p == sysModules) = false ∧ ∃ vs, KV kvs vs ∧ s.heap.DictOf (mixKind X.prog X.w) p vs := I.hok p _ hx
      have hlen : kvs.length = vs.length := Paired.length r
      exact wpAny_truthy_dict hS m (by omega) ⟨H, I.tok _, by rw [isEmpty_kv r]; exact q⟩
  | _ => exact (show False from e).elim
/-- any expression whose test is its value's truth (a name, a call, a subscript, a field ..: he by fun _ => rfl) -/
theorem pt_truth (ha : PE X a ta) (he : ∀ whole, isTrue a X.env whole = (do let v ← whole; standAt a.pos; holding [v] (truthy v))) :
    PT X a (fun σ H Q => ta σ H fun x H' => ∃ k, TruV X.K x H' k ∧ Q k H') := by
  intro pins s σ H Q I h
  exact isTrue_plain (thn (ha pins s σ H _ I h) fun v s1 ⟨x, H1, I1, r1, q1⟩ => tru_ok pins s1 σ H1 x v Q I1 r1 q1) (he _)

/-! ### strs and bytes -/
theorem pe_byt {x : List UInt8} {k : Nat} : PE X (.Constant (.bytes x) k pos) (fun _ H Q => Q (.byt x.toArray) H) := fun _ _ _ H _ I h => PySem.W.Constant_bytes ⟨.byt x.toArray, H, I.tok _, ⟨_, rfl⟩, h⟩
theorem op_add_str : OpR X (binaryOp .Add) (fun x y H Q => ∃ i j, x = .str i ∧ y = .str j ∧ i.length + j.length ≤ sizeLine ∧ Q (.str (i ++ j)) H) := by
  intro pins s σ H x y v u Q I rx ry h
  obtain ⟨i, j, rfl, rfl, hz, q⟩ := h
  obtain ⟨t, rfl⟩ := rx
  obtain ⟨t', rfl⟩ := ry
  exact add_str (fun t' tk => ⟨.str (i ++ j), H, I.tok _, ⟨_, rfl⟩, q⟩) hz
theorem iop_add_str : OpR X (inplaceOp .Add) (fun x y H Q => ∃ i j, x = .str i ∧ y = .str j ∧ i.length + j.length ≤ sizeLine ∧ Q (.str (i ++ j)) H) := by
  intro pins s σ H x y v u Q I rx ry h
  obtain ⟨i, j, rfl, rfl, hz, q⟩ := h
  obtain ⟨t, rfl⟩ := rx
  obtain ⟨t', rfl⟩ := ry
  exact iadd_str (fun t' tk => ⟨.str (i ++ j), H, I.tok _, ⟨_, rfl⟩, q⟩) hz
theorem op_add_byt : OpR X (binaryOp .Add) (fun x y H Q => ∃ i j, x = .byt i ∧ y = .byt j ∧ i.size + j.size ≤ 16777216 ∧ Q (.byt (i ++ j)) H) := by
  intro pins s σ H x y v u Q I rx ry h
  obtain ⟨i, j, rfl, rfl, hz, q⟩ := h
  obtain ⟨t, rfl⟩ := rx
  obtain ⟨t', rfl⟩ := ry
  exact PySem.W.KBy.add_bytes hz (fun t' tk => ⟨.byt (i ++ j), H, I.tok _, ⟨_, rfl⟩, q⟩)

def PlainIxT (b : Expr) : Prop := ∀ o i, subscripted b false o i = operate [o, i] (getItem o i)
/-- s[i], 0 ≤ i < len -/
theorem pe_item_str (ha : PE X a ta) (hb : PE X b tb) (hs : PlainIxT b) :
    PE X (.Subscript a b pos) (tOp (fun x y H Q => ∃ z i c, x = .str z ∧ y = .int i ∧ 0 ≤ i ∧ i < 2 ^ 63 ∧ i < z.length ∧ z.cps[i.toNat]? = some c ∧ Q (.str ⟨#[c]⟩) H) ta tb) := by
  intro pins s σ H Q I h
  refine Subscript_ (binT ha hb I h fun v u s2 x y H2 I2 rx ry q => ?_)
  obtain ⟨z, i, c, rfl, rfl, h0, h63, h1, hc, q⟩ := q
  obtain ⟨t, rfl⟩ := rx
  obtain ⟨t', rfl⟩ := ry
  have e : seqIndex? i z.length = some i.toNat := PySem.StrLaws.seqIndex_nonneg h0 h1
  exact tail_any (typeIs_str s2 z t) slot_str_getitem.lookup (getItem_str (c := c) (by
    have e1 : decide (i < -(2 ^ 63 : Int)) = false := decide_eq_false (by omega)
    have e2 : decide (i ≥ 2 ^ 63) = false := decide_eq_false (by omega)
    rw [e1, e2] <;> rfl) (by rw [e]; exact hc) ⟨.str ⟨#[c]⟩, H2, I2.tok _, ⟨_, rfl⟩, q⟩) (hs _ _)
/-- b[i], 0 ≤ i < len -/
theorem pe_item_byt (ha : PE X a ta) (hb : PE X b tb) (hs : PlainIxT b) :
    PE X (.Subscript a b pos) (tOp (fun x y H Q => ∃ (z : List UInt8) (i : Int), x = .byt z.toArray ∧ y = .int i ∧ z.length ≤ sizeLine ∧ 0 ≤ i ∧ i < z.length ∧ Q (.int ((z.getD i.toNat 0).toNat : Nat)) H) ta tb) := by
  intro pins s σ H Q I h
  refine Subscript_ (binT ha hb I h fun v u s2 x y H2 I2 rx ry q => ?_)
  obtain ⟨z, i, rfl, rfl, hz, h0, h1, q⟩ := q
  obtain ⟨t, rfl⟩ := rx
  obtain ⟨t', rfl⟩ := ry
  have hl : sizeLine = 16777216 := sizeLine_eq
  exact tail_any (PySem.W.typeIs_bytes s2 z.toArray t) PySem.W.FB.slot_bytes_getitem.lookup (PySem.W.getItem_bytes (by omega) h0 h1 ⟨.int ((z.getD i.toNat 0).toNat : Nat), H2, I2.tok _, ⟨_, rfl⟩, q⟩) (hs _ _)

/-! ### scalar builtins, by CallR -/
theorem vals1 {x : V} {us : List Value} (r : Vals [x] us) : ∃ u, us = [u] ∧ RelV x u := by
  cases r with
  | cons r1 r2 => cases r2; exact ⟨_, rfl, r1⟩
theorem vals2 {x y : V} {us : List Value} (r : Vals [x, y] us) : ∃ u w', us = [u, w'] ∧ RelV x u ∧ RelV y w' := by
  cases r with
  | cons r1 r2 =>
    cases r2 with
    | cons r3 r4 => cases r4; exact ⟨_, _, rfl, r1, r3⟩
theorem call_abs : CallR X (.builtin "abs") (fun xs H Q => ∃ i, xs = [.int i] ∧ Q (.int (if i < 0 then -i else i)) H) := by
  intro pins s σ H xs us Q I r h
  obtain ⟨i, rfl, q⟩ := h
  obtain ⟨u, rfl, t, rfl⟩ := vals1 r
  exact call_abs_int fun u tk => ⟨.int (if i < 0 then -i else i), H, I.tok _, ⟨_, rfl⟩, q⟩
theorem call_max2 (hc : X.calm = true) : CallR X (.builtin "max") (fun xs H Q => ∃ i j, xs = [.int i, .int j] ∧ Q (.int (if j > i then j else i)) H) := by
  intro pins s σ H xs us Q I r h
  obtain ⟨i, j, rfl, q⟩ := h
  obtain ⟨u, w', rfl, ⟨t, rfl⟩, ⟨t', rfl⟩⟩ := vals2 r
  refine max_two_ints (I.ok.hd hc) fun h' tk k => ⟨_, H, I.kept k, ?_, q⟩
  by_cases hj : j > i
  · rw [if_pos hj, if_pos hj]; exact ⟨_, rfl⟩
  · rw [if_neg hj, if_neg hj]; exact ⟨_, rfl⟩
theorem call_min2 (hc : X.calm = true) : CallR X (.builtin "min") (fun xs H Q => ∃ i j, xs = [.int i, .int j] ∧ Q (.int (if j < i then j else i)) H) := by
  intro pins s σ H xs us Q I r h
  obtain ⟨i, j, rfl, q⟩ := h
  obtain ⟨u, w', rfl, ⟨t, rfl⟩, ⟨t', rfl⟩⟩ := vals2 r
  refine min_two_ints (I.ok.hd hc) fun h' tk k => ⟨_, H, I.kept k, ?_, q⟩
  by_cases hj : j < i
  · rw [if_pos hj, if_pos hj]; exact ⟨_, rfl⟩
  · rw [if_neg hj, if_neg hj]; exact ⟨_, rfl⟩
theorem call_int1 : CallR X (.type "int") (fun xs H Q => (∃ i, xs = [.int i] ∧ Q (.int i) H) ∨ ∃ k, xs = [.bl k] ∧ Q (.int (if k then 1 else 0)) H) := by
  intro pins s σ H xs us Q I r h
  rcases h with ⟨i, rfl, q⟩ | ⟨k, rfl, q⟩
  · obtain ⟨u, rfl, t, rfl⟩ := vals1 r
    exact call_int_int ⟨.int i, H, I, ⟨_, rfl⟩, q⟩
  · obtain ⟨u, rfl, r1⟩ := vals1 r
    cases r1
    exact call_int_bool ⟨.int (if k then 1 else 0), H, I.tok _, ⟨_, rfl⟩, q⟩
theorem call_bool1 : CallR X (.type "bool") (fun xs H Q => (∃ i, xs = [.int i] ∧ Q (.bl (i != 0)) H) ∨ ∃ k, xs = [.bl k] ∧ Q (.bl k) H) := by
  intro pins s σ H xs us Q I r h
  rcases h with ⟨i, rfl, q⟩ | ⟨k, rfl, q⟩
  · obtain ⟨u, rfl, t, rfl⟩ := vals1 r
    exact call_bool_int ⟨.bl (i != 0), H, I, rfl, q⟩
  · obtain ⟨u, rfl, r1⟩ := vals1 r
    cases r1
    exact call_bool_bool ⟨.bl k, H, I, rfl, q⟩
theorem call_str_int : CallR X (.type "str") (fun xs H Q => ∃ i, xs = [.int i] ∧ i.natAbs.log2 < 1920 ∧ Q (.str (toString i)) H) := by
  intro pins s σ H xs us Q I r h
  obtain ⟨i, rfl, hz, q⟩ := h
  obtain ⟨u, rfl, t, rfl⟩ := vals1 r
  exact PySem.P.str_of_int hz ⟨.str _, H, I.tok _, ⟨_, rfl⟩, q⟩
theorem call_ord : CallR X (.builtin "ord") (fun xs H Q => ∃ x, xs = [.str x] ∧ x.length = 1 ∧ Q (.int (x.cps.getD 0 0 : Nat)) H) := by
  intro pins s σ H xs us Q I r h
  obtain ⟨x, rfl, hz, q⟩ := h
  obtain ⟨u, rfl, t, rfl⟩ := vals1 r
  exact ord_of_one hz ⟨.int _, H, I.tok _, ⟨_, rfl⟩, q⟩
theorem call_chr : CallR X (.builtin "chr") (fun xs H Q => ∃ i, xs = [.int i] ∧ 0 ≤ i ∧ i ≤ 1114111 ∧ Q (.str ⟨#[i.toNat]⟩) H) := by
  intro pins s σ H xs us Q I r h
  obtain ⟨i, rfl, h0, h1, q⟩ := h
  obtain ⟨u, rfl, t, rfl⟩ := vals1 r
  exact chr_of_range h0 h1 ⟨.str _, H, I.tok _, ⟨_, rfl⟩, q⟩
/-- len of a str, a bytes, a list, a tuple -/
def LenV (K : PySem.W.Frag) (x : V) (H : Hp) (n : Nat) : Prop :=
  match x with
  | .str y => y.length ≤ sizeLine ∧ n = y.length
  | .byt y => y.size ≤ sizeLine ∧ n = y.size
  | .ref p => (∃ xs, SqL K H p xs ∧ n = xs.length) ∨ ∃ xs, SqT K H p xs ∧ n = xs.length
  | _ => False
theorem call_len : CallR X (.builtin "len") (fun xs H Q => ∃ x n, xs = [x] ∧ LenV X.K x H n ∧ Q (.int n) H) := by
  intro pins s σ H xs us Q I r h
  obtain ⟨x, n, rfl, e, q⟩ := h
  obtain ⟨u, rfl, rx⟩ := vals1 r
  have hl := line63
  have hs : sizeLine = 16777216 := sizeLine_eq
  cases x with
  | str y =>
    obtain ⟨t, rfl⟩ := rx
    obtain ⟨hy, e'⟩ : y.length ≤ sizeLine ∧ n = y.length := e
    subst e'
    exact len_str (by omega) ⟨.int _, H, I.tok _, ⟨_, rfl⟩, q⟩
  | byt y =>
    obtain ⟨t, rfl⟩ := rx
    obtain ⟨hy, e'⟩ : y.size ≤ sizeLine ∧ n = y.size := e
    subst e'
    exact PySem.W.len_bytes (by omega) ⟨.int _, H, I.tok _, ⟨_, rfl⟩, q⟩
  | ref p =>
    cases rx
    have e' : (∃ xs, SqL X.K H p xs ∧ n = xs.length) ∨ ∃ xs, SqT X.K H p xs ∧ n = xs.length := e
    rcases e' with ⟨xs, hx, e'⟩ | ⟨xs, hx, e'⟩
    · subst e'
      obtain ⟨its, r', pl, hz⟩ := I.list hx
      have hlen := r'.length
      exact Calls.call_len_list pl.isList (by simp only [List.size_toArray]; omega) ⟨.int xs.length, H, I.tok _, ⟨_, by simp only [List.size_toArray]; rw [hlen]⟩, q⟩
    · subst e'
      obtain ⟨its, r', pl, hz⟩ := I.tuple hx
      have hlen := r'.length
      exact len_tuple pl (by simp only [List.size_toArray]; omega) ⟨.int xs.length, H, I.tok _, ⟨_, by simp only [List.size_toArray]; rw [hlen]⟩, q⟩
  | _ => exact (show False from e).elim
/-- divmod: a new tuple -/
theorem call_divmod : CallR X (.builtin "divmod") (fun xs H Q => ∃ i j, xs = [.int i, .int j] ∧ CDiv i j ∧ ∀ p, H p = none → Q (.ref p) (upd H p (.tup [.int (i / j), .int (i % j)]))) := by
  intro pins s σ H xs us Q I r h
  obtain ⟨i, j, rfl, ⟨h1, h2⟩, q⟩ := h
  obtain ⟨u, w', rfl, ⟨t, rfl⟩, ⟨t', rfl⟩⟩ := vals2 r
  refine divmod_int (by omega) ?_ (.inl (PyProof.noPylong_small (by omega)))
  rw [Int.fdiv_eq_ediv_of_nonneg i (by omega), Int.fmod_eq_emod_of_nonneg i (by omega)]
  have hn : H s.heap.objs.size = none := I.hok.fresh (Nat.le_refl _)
  refine ⟨.ref s.heap.objs.size, _, ?_, rfl, q _ hn⟩
  refine I.laid (fun b o e => Heap.get?_push_of_some _ e) (Nat.le_refl _) ⟨by simp only [List.length_cons, List.length_nil]; rw [sizeLine_eq]; decide, [.int (i / j) s.toks, .int (i % j) (s.toks + 1)], .cons ⟨_, rfl⟩ (.cons ⟨_, rfl⟩ .nil), ?_⟩
  exact ⟨_, Heap.get?_push_size s.heap rfl, rfl, 0, rfl⟩
end
end L2

namespace L2
open PySem PySem.Spec PyProof.Rows

/-! ### an instance, its attributes a map -/
structure ObjM (h : Heap) (x dx C : Addr) (mA : Str → Option Value) : Prop where
  obj : h.get? x = some (PySem.W.instObj C dx)
  ns : h.Ns1 dx mA
  ne : dx ≠ x

theorem lookIn_ns {h : Heap} {dx : Addr} {mA : Str → Option Value} (n : h.Ns1 dx mA) : ∃ od, h.get? dx = some od ∧ ∀ name, PySem.W.lookIn name od = some (mA name) := by
  obtain ⟨o, es, ep, ho, hd, hk, _, hm⟩ := n
  refine ⟨o, ho, fun name => ?_⟩
  have e := hm name
  unfold nsFind findBy at e
  rw [← Array.find?_toList] at e
  unfold PySem.W.lookIn
  rw [hd]
  dsimp only
  split
  · rename_i y q
    rw [q] at e
    exact congrArg some e
  · rename_i q
    rw [q] at e
    have a : es.toList.any (·.refKey) = false := by
      rw [List.any_eq_false]
      intro y hy
      obtain ⟨z, t, hkey⟩ := hk y (Array.mem_toList_iff.mp hy)
      simp [DictEntry.refKey, hkey]
    have a' : ¬ es.toList.any (·.refKey) = true := by rw [a]; exact Bool.false_ne_true
    rw [if_neg a']
    exact congrArg some e

theorem ObjM.look {h : Heap} {x dx C : Addr} {mA : Str → Option Value} (I : ObjM h x dx C mA) : ∃ od, PySem.W.InstAt h x (PySem.W.instObj C dx) C (some od) ∧ ∀ name, PySem.W.lookIn name od = some (mA name) :=
  let ⟨od, ho, hl⟩ := lookIn_ns I.ns
  ⟨od, ⟨I.obj, rfl, rfl, ho⟩, hl⟩

section
variable {prog : Program} {w : World} {A : Around} {E : Value → Shared → Prop} {s : Shared} {K : PySem.W.Frag} {x dx C f : Addr} {mA : Str → Option Value} {name : Str} {v : Value}

theorem get_map {expr : Bool} {Q : Value → Shared → Prop} (X : K.In s.heap) (I : ObjM s.heap x dx C mA) (hg : PySem.W.plainGet K C name = true) (hh : PySem.W.hasDictIn K C = true)
    (ha : PySem.W.findIn K (.ref C) name = some none) (hv : mA name = some v) (hv' : PySem.W.handedIn v = true) (h : Q v { s with toks := s.toks + 1 }) :
    wpAny (model prog w) A (getAttr (.ref x) name expr) Q E s := by
  obtain ⟨od, J, hl⟩ := I.look
  exact PySem.W.get_value X J (PySem.W.plainGet_of hg).1 (PySem.W.findObj_own hh ha rfl (by rw [hl, hv])) hv' h

theorem get_const {expr : Bool} {a : Value} {Q : Value → Shared → Prop} (X : K.In s.heap) (I : ObjM s.heap x dx C mA) (hg : PySem.W.plainGet K C name = true) (hh : PySem.W.hasDictIn K C = true)
    (ha : PySem.W.findIn K (.ref C) name = some (some a)) (hn : PySem.W.specialIn K a "__get__" = some none) (hc : PySem.W.copiedNames.contains name = false) (hv : mA name = none) (hv' : PySem.W.handedIn a = true)
    (h : Q a { s with toks := s.toks + 1 }) : wpAny (model prog w) A (getAttr (.ref x) name expr) Q E s := by
  obtain ⟨od, J, hl⟩ := I.look
  exact PySem.W.get_value X J (PySem.W.plainGet_of hg).1 (PySem.W.findObj_cls hh ha hn hv' hc (by rw [hl, hv])) hv' h

theorem get_meth {pl : Sem Bool} {Q : Value × List Value → Shared → Prop} (X : K.In s.heap) (I : ObjM s.heap x dx C mA) (hg : PySem.W.plainGet K C name = true)
    (hf : PySem.W.findIn K (.ref C) name = some (some (.ref f))) (ht : PySem.W.isFn K (.ref f) = true) (hv : mA name = none) (h : Q (.ref f, [.ref x]) s) :
    wpAny (model prog w) A (getMethod (.ref x) name pl) Q E s := by
  obtain ⟨od, J, hl⟩ := I.look
  exact PySem.W.method_fn X J (PySem.W.plainGet_of hg).1 (PySem.W.plainGet_of hg).2 hf (beq_iff_eq.mp ht) (by show (PySem.W.lookIn name od).map (·.isSome) = some false; rw [hl, hv]; rfl) h

theorem set_map {ns : List Str} {Q : Unit → Shared → Prop} (X : K.In s.heap) (I : ObjM s.heap x dx C mA)
    (hs : PySem.W.findIn K (.ref C) "__setattr__" = some (some (.builtin "object.__setattr__"))) (hp : PySem.W.plainOver K C = true) (ht : PySem.W.takerIn K C name = some none) (hh : PySem.W.hasDictIn K C = true)
    (hw : PySem.Within mA ns) (hsz : ns.length ≤ sizeLine)
    (h : ∀ h', ObjM h' x dx C (fun y => if y = name then some v else mA y) → Heap.SameBut dx s.heap h' → Q () { s with heap := h', toks := s.toks + 2 }) :
    wpAny (model prog w) A (setAttr (.ref x) name v) Q E s := by
  obtain ⟨od, J, hl⟩ := I.look
  refine PySem.W.set_plain X J hs (PySem.W.osa_open (s := { s with toks := s.toks + 1 }) (r := none) X J hp ht fun b => ?_)
  obtain ⟨cd, hc, hd'⟩ := PySem.W.any_some hh
  have hx : s.heap.get? x = some ⟨.ref C, some dx, .plain, #[]⟩ := I.obj
  refine wpAny_bind (wpAny_pure (wpAny_bind (wpAny_bind (wpAny_loadPart hx (wpAny_bind (PySem.W.Looks.here (s := { s with toks := s.toks + 1 }) (PySem.W.looks_clsIn X hc) ?_))))))
  rw [hd']
  refine wpAny_pure (a := some dx) (wpAny_bind (wpAny_pure (wpAny_bind ?_)))
  refine wpAny_nsSet1 (s := { s with toks := s.toks + 1 }) I.ns fun h' hn2 hs2 => ?_
  obtain ⟨oD, esD, epD, hoD, hdD, hcD⟩ := hn2.count (PySem.Within.cons name v hw)
  refine wpAny_bind (wpAny_lookBehind hoD (by rw [hdD]; exact pastItsLine_dict (Nat.le_trans hcD (by rw [List.length_cons]; omega))) ?_)
  exact wpAny_pure (h _ ⟨(hs2.2 _ (Ne.symm I.ne)).trans I.obj, hn2, I.ne⟩ hs2)

/-- C(..): the dict at the heap's end, the instance behind it; then its __init__ -/
theorem make_map {R : Result → Shared → Prop} {vs : List Value} {kw : List (Str × Value)} (X : K.In s.heap) (hm : PySem.W.makesIn K C = true)
    (hi : PySem.W.findIn K (.ref C) "__init__" = some (some (.ref f))) (hf : PySem.W.typeIn K (.ref f) = some (.type "function"))
    (h : codeAny (model prog w) (A.under (.builtin "type.__call__" ⟨.ref C :: vs, kw⟩)) (.call (.ref f) ⟨.ref (s.heap.objs.size + 1) :: vs, kw⟩) (PySem.W.InitBack (s.heap.objs.size + 1) R)
      { s with heap := (s.heap.push PySem.W.emptyDict).push (PySem.W.instObj C s.heap.objs.size) }) :
    codeAny (model prog w) A (.call (.ref C) ⟨vs, kw⟩) R s := by
  obtain ⟨hh, g, d, t, os⟩ := s
  exact PySem.W.make_core (PySem.W.makes_of X hm) (PySem.W.looks_findIn X hi) (fun self => PySem.W.bind_fn X self hf) (.inl rfl) h
/-- C() where there is no __init__ but object's -/
theorem make_map0 {R : Result → Shared → Prop} (X : K.In s.heap) (hm : PySem.W.makesIn K C = true)
    (hi : PySem.W.findIn K (.ref C) "__init__" = some (some (.builtin "object.__init__")))
    (hb : ∀ self, PySem.W.Looks (model prog w) s.heap (bindSpecial (.builtin "object.__init__") self) (.builtin "object.__init__", [self]))
    (h : codeAny (model prog w) (A.under (.builtin "type.__call__" ⟨[.ref C], []⟩)) (.call (.builtin "object.__init__") ⟨[.ref (s.heap.objs.size + 1)], []⟩) (PySem.W.InitBack (s.heap.objs.size + 1) R)
      { s with heap := (s.heap.push PySem.W.emptyDict).push (PySem.W.instObj C s.heap.objs.size) }) :
    codeAny (model prog w) A (.call (.ref C) ⟨[], []⟩) R s := by
  obtain ⟨hh, g, d, t, os⟩ := s
  exact PySem.W.make_core (PySem.W.makes_of X hm) (PySem.W.looks_findIn X hi) hb (.inr ⟨rfl, rfl⟩) h
end

/-! ### the attributes as a list of pairs -/
def putF (f : Str) (v : V) : List (Str × V) → List (Str × V)
  | [] => [(f, v)]
  | (g, x) :: r => if g = f then (g, v) :: r else (g, x) :: putF f v r
theorem lookup_putF (f g : Str) (v : V) : ∀ fs : List (Str × V), (putF f v fs).lookup g = if g = f then some v else fs.lookup g
  | [] => by
    show List.lookup g [(f, v)] = _
    by_cases h : g = f
    · have hb : (g == f) = true := beq_iff_eq.mpr h
      simp only [List.lookup, hb, if_pos h]
    · have hb : (g == f) = false := beq_eq_false_iff_ne.mpr h
      simp only [List.lookup, hb, if_neg h]
  | (k, x) :: r => by
    have ih := lookup_putF f g v r
    rw [show putF f v ((k, x) :: r) = (if k = f then (k, v) :: r else (k, x) :: putF f v r) from rfl]
    by_cases hk : k = f
    · rw [if_pos hk]
      by_cases h : g = k
      · have hb : (g == k) = true := beq_iff_eq.mpr h
        simp only [List.lookup, hb, if_pos (h.trans hk)]
      · have hb : (g == k) = false := beq_eq_false_iff_ne.mpr h
        simp only [List.lookup, hb, if_neg (fun e : g = f => h (e.trans hk.symm))]
    · rw [if_neg hk]
      by_cases h : g = k
      · have hb : (g == k) = true := beq_iff_eq.mpr h
        simp only [List.lookup, hb, if_neg (fun e : g = f => hk (h.symm.trans e))]
      · have hb : (g == k) = false := beq_eq_false_iff_ne.mpr h
        simp only [List.lookup, hb]
        exact ih
theorem keys_putF (f : Str) (v : V) : ∀ fs : List (Str × V), f ∈ (putF f v fs).map (·.1) ∧ ∀ g, g ∈ fs.map (·.1) → g ∈ (putF f v fs).map (·.1)
  | [] => ⟨by simp [putF], fun g h => by simp at h⟩
  | (k, x) :: r => by
    obtain ⟨i1, i2⟩ := keys_putF f v r
    rw [show putF f v ((k, x) :: r) = (if k = f then (k, v) :: r else (k, x) :: putF f v r) from rfl]
    by_cases hk : k = f
    · rw [if_pos hk]
      subst hk
      exact ⟨by simp, fun g h => by simpa using h⟩
    · rw [if_neg hk]
      refine ⟨?_, fun g h => ?_⟩
      · rw [List.map_cons]
        exact List.mem_cons_of_mem _ i1
      · rw [List.map_cons] at h ⊢
        rcases List.mem_cons.mp h with e | e
        · exact List.mem_cons.mpr (.inl e)
        · exact List.mem_cons_of_mem _ (i2 g e)
theorem length_putF (f : Str) (v : V) : ∀ fs : List (Str × V), (putF f v fs).length ≤ fs.length + 1
  | [] => by simp [putF]
  | (k, x) :: r => by
    have ih := length_putF f v r
    rw [show putF f v ((k, x) :: r) = (if k = f then (k, v) :: r else (k, x) :: putF f v r) from rfl]
    by_cases hk : k = f
    · rw [if_pos hk, List.length_cons, List.length_cons]; omega
    · rw [if_neg hk, List.length_cons, List.length_cons]; omega

theorem RelO.some_of {v : V} {o : Option Value} (r : RelO (some v) o) : ∃ u, o = some u ∧ RelV v u := by
  cases o with
  | none => exact (show False from r).elim
  | some u => exact ⟨u, rfl, r⟩
theorem RelO.none_of {o : Option Value} (r : RelO none o) : o = none := by
  cases o with
  | none => rfl
  | some u => exact (show False from r).elim
theorem handed_of {v : V} {u : Value} (r : RelV v u) : PySem.W.handedIn u = true := by
  cases v with
  | non => cases (show u = Value.none from r); rfl
  | bl b => cases (show u = Value.bool b from r); rfl
  | int i => obtain ⟨t, e⟩ := (show ∃ t, u = Value.int i t from r); cases e; rfl
  | str x => obtain ⟨t, e⟩ := (show ∃ t, u = Value.str x t from r); cases e; rfl
  | byt b => obtain ⟨t, e⟩ := (show ∃ t, u = Value.bytes b t from r); cases e; rfl
  | flt b => obtain ⟨t, e⟩ := (show ∃ t, u = Value.float b t from r); cases e; rfl
  | ref a => cases (show u = Value.ref a from r); rfl
  | ty n => cases (show u = Value.type n from r); rfl

section
variable {P : Program} {w : World} {H H' : Hp} {h h' : Heap} {a C dx : Addr} {fs fs' : List (Str × V)}
theorem ins_get (hok : HOk P w H h) (e : H a = some (.ins C dx fs)) : ∃ mA, ObjM h a dx C mA ∧ (∀ f, RelO (fs.lookup f) (mA f)) ∧ PySem.Within mA (fs.map (·.1)) ∧ fs.length ≤ 1000 ∧ H dx = some (.own a) := by
  obtain ⟨d, z, ne, ob, mA, n, r, q⟩ := (show ObjOk P w H h a (.ins C dx fs) from hok a _ e)
  exact ⟨mA, ⟨ob, n, ne⟩, r, q, z, d⟩
end

/-! ### what of the text a class must have -/
structure Cls (K : PySem.W.Frag) (C : Addr) : Prop where
  pg : PySem.W.plainGet K C Str.empty = true
  hd : PySem.W.hasDictIn K C = true
  po : PySem.W.plainOver K C = true
  sa : PySem.W.findIn K (.ref C) "__setattr__" = some (some (.builtin "object.__setattr__"))
theorem Cls.get {K : PySem.W.Frag} {C : Addr} (c : Cls K C) (f : Str) : PySem.W.plainGet K C f = true := c.pg
/-- no class of it has the name -/
def NoAttr (K : PySem.W.Frag) (C : Addr) (f : Str) : Prop := PySem.W.findIn K (.ref C) f = some none
theorem NoAttr.taker {K : PySem.W.Frag} {C : Addr} {f : Str} (n : NoAttr K C f) : PySem.W.takerIn K C f = some none := by
  unfold PySem.W.takerIn
  rw [show PySem.W.findIn K (.ref C) f = some none from n]
  rfl
/-- a constant of the class -/
structure Con (K : PySem.W.Frag) (C : Addr) (f : Str) (v : V) (u : Value) : Prop where
  at_ : PySem.W.findIn K (.ref C) f = some (some u)
  rel : RelV v u
  get : PySem.W.specialIn K u "__get__" = some none
  cp : PySem.W.copiedNames.contains f = false
/-- a method: a plain def of the class or of one above it -/
structure Meth (K : PySem.W.Frag) (C : Addr) (m : Str) (f : Addr) : Prop where
  at_ : PySem.W.findIn K (.ref C) m = some (some (.ref f))
  fn : PySem.W.isFn K (.ref f) = true
  kp : PySem.W.keepIn K (.ref f) = true

section
variable {X : Cx} {pins : List (Addr × Obj)} {σ : St} {H : Hp} {s : Shared} {a C dx : Addr} {fs : List (Str × V)} {f : Str} {v : V} {A : Around} {E : Value → Shared → Prop}

theorem getattr_ok {b : Bool} {Q : Value → Shared → Prop} (I : Inv X pins σ H s) (e : H a = some (.ins C dx fs)) (c : Cls X.K C) (n : NoAttr X.K C f) (l : fs.lookup f = some v)
    (h : ∀ u s', Inv X pins σ H s' → RelV v u → Q u s') : wpAny (model X.prog X.w) A (getAttr (.ref a) f b) Q E s := by
  obtain ⟨mA, O, r, _, _, _⟩ := ins_get I.hok e
  obtain ⟨u, hu, ru⟩ := RelO.some_of (v := v) (o := mA f) (by rw [← l]; exact r f)
  exact get_map I.kIn O (c.get f) c.hd n hu (handed_of ru) (h u _ (I.tok _) ru)

theorem getcon_ok {b : Bool} {u : Value} {Q : Value → Shared → Prop} (I : Inv X pins σ H s) (e : H a = some (.ins C dx fs)) (c : Cls X.K C) (k : Con X.K C f v u) (l : fs.lookup f = none)
    (h : ∀ s', Inv X pins σ H s' → Q u s') : wpAny (model X.prog X.w) A (getAttr (.ref a) f b) Q E s := by
  obtain ⟨mA, O, r, _, _, _⟩ := ins_get I.hok e
  have hn : mA f = none := RelO.none_of (by rw [← l]; exact r f)
  exact get_const I.kIn O (c.get f) c.hd k.at_ k.get k.cp hn (handed_of k.rel) (h _ (I.tok _))

theorem getmeth_ok {m : Str} {g : Addr} {pl : Sem Bool} {Q : Value × List Value → Shared → Prop} (I : Inv X pins σ H s) (e : H a = some (.ins C dx fs)) (c : Cls X.K C) (k : Meth X.K C m g) (l : fs.lookup m = none)
    (h : Q (.ref g, [.ref a]) s) : wpAny (model X.prog X.w) A (getMethod (.ref a) m pl) Q E s := by
  obtain ⟨mA, O, r, _, _, _⟩ := ins_get I.hok e
  have hn : mA m = none := RelO.none_of (by rw [← l]; exact r m)
  exact get_meth I.kIn O (c.get m) k.at_ k.fn hn h

theorem setattr_ok {y : V} {u : Value} {Q : Unit → Shared → Prop} (I : Inv X pins σ H s) (e : H a = some (.ins C dx fs)) (c : Cls X.K C) (n : NoAttr X.K C f) (hl : fs.length < 1000) (ry : RelV y u)
    (h : ∀ s', Inv X pins σ (upd H a (.ins C dx (putF f y fs))) s' → Q () s') : wpAny (model X.prog X.w) A (setAttr (.ref a) f u) Q E s := by
  obtain ⟨mA, O, r, wi, _, ho⟩ := ins_get I.hok e
  have hz : (fs.map (·.1)).length ≤ sizeLine := by rw [List.length_map, sizeLine_eq]; omega
  refine set_map I.kIn O c.sa c.po n.taker c.hd wi hz fun h' O' sb => h _ ?_
  have hd : ∃ o, h'.get? dx = some o := let ⟨o, _, _, e', _⟩ := O'.ns; ⟨o, e'⟩
  refine I.write (x := a) (e := dx) (by rw [e]; exact True.intro) (.inr ho) (fun b q hb z => (sb.2 b hb).trans z) hd ?_
  refine ⟨by rw [upd_ne O.ne]; exact ho, ?_, O.ne, O'.obj, _, O'.ns, fun g => ?_, fun g hg => ?_⟩
  · have := length_putF f y fs; omega
  · show RelO ((putF f y fs).lookup g) (if g = f then some u else mA g)
    rw [lookup_putF]
    by_cases q : g = f
    · rw [if_pos q, if_pos q]; exact ry
    · rw [if_neg q, if_neg q]; exact r g
  · by_cases q : g = f
    · rw [q]; exact (keys_putF f y fs).1
    · refine (keys_putF f y fs).2 g (wi g fun z => hg ?_)
      show (if g = f then some u else mA g) = none
      rw [if_neg q]; exact z

/-- a new instance, tracked, without attributes -/
theorem Inv.made (I : Inv X pins σ H s) : Inv X pins σ (upd (upd H s.heap.objs.size (.own (s.heap.objs.size + 1))) (s.heap.objs.size + 1) (.ins C s.heap.objs.size []))
    { s with heap := (s.heap.push PySem.W.emptyDict).push (PySem.W.instObj C s.heap.objs.size) } := by
  have e1 : (s.heap.push PySem.W.emptyDict).get? s.heap.objs.size = some PySem.W.emptyDict := Heap.get?_push_size s.heap rfl
  have e2 : ((s.heap.push PySem.W.emptyDict).push (PySem.W.instObj C s.heap.objs.size)).get? (s.heap.objs.size + 1) = some (PySem.W.instObj C s.heap.objs.size) := by
    have := Heap.get?_push_size (s.heap.push PySem.W.emptyDict) (o := PySem.W.instObj C s.heap.objs.size) rfl
    rwa [Heap.size_push] at this
  have e3 : (s.heap.push PySem.W.emptyDict).Ns s.heap.objs.size (fun _ => none) := ⟨PySem.W.emptyDict, #[], _, e1, rfl, (fun e he => absurd he (by simp)), fun _ => rfl⟩
  have I1 := I.laid (a := s.heap.objs.size) (o := .own (s.heap.objs.size + 1)) (h' := s.heap.push PySem.W.emptyDict) (t' := s.toks) (fun b u q => Heap.get?_push_of_some _ q) (Nat.le_refl _) ⟨_, e1⟩
  refine I1.laid (a := s.heap.objs.size + 1) (o := .ins C s.heap.objs.size []) (t' := s.toks) (fun b u q => Heap.get?_push_of_some _ q) (Nat.le_of_eq (Heap.size_push _ _)) ?_
  have ne : s.heap.objs.size ≠ s.heap.objs.size + 1 := Nat.ne_of_lt (Nat.lt_succ_self _)
  refine ⟨by rw [upd_ne ne, upd_same], Nat.zero_le _, ne, e2, fun _ => none, (Heap.Ns1.of_empty e3).at fun o q => Heap.get?_push_of_some _ q, fun _ => True.intro, fun y hy => absurd rfl hy⟩

/-- e.f where nothing but the object is asked: through attributeBase (super) and the last hold -/
theorem attr_of {prog : Program} {w : World} {env : Env} {e : Expr} {f : Str} {pos : Pos} {s : Shared} {Q : Value → Shared → Prop} (hb : attributeBase e f env (eval e env) = eval e env)
    (h : wpAny (model prog w) A (eval e env) (fun o s₁ => wpAny (model prog w) A (getAttr o f true) Q E s₁) E s) : wpAny (model prog w) A (eval (.Attribute e f pos) env) Q E s :=
  Attribute_any_ h (by rw [arm_eval_Attribute, hb])
end

/-! ### readings and rules -/
/-- e.f, an attribute of the instance -/
def tFld (K : PySem.W.Frag) (ta : TE) (f : Str) : TE := fun σ H Q => ta σ H fun x H1 => ∃ a C dx fs v, x = .ref a ∧ H1 a = some (.ins C dx fs) ∧ Cls K C ∧ NoAttr K C f ∧ fs.lookup f = some v ∧ Q v H1
/-- e.f, a constant of the class -/
def tCon (K : PySem.W.Frag) (ta : TE) (f : Str) : TE := fun σ H Q => ta σ H fun x H1 => ∃ a C dx fs v u, x = .ref a ∧ H1 a = some (.ins C dx fs) ∧ Cls K C ∧ Con K C f v u ∧ fs.lookup f = none ∧ Q v H1
/-- e.f = value -/
def sFld (K : PySem.W.Frag) (ta tv : TE) (f : Str) : TS := fun D σ H => tv σ H fun y H1 => ta σ H1 fun x H2 => ∃ a C dx fs, x = .ref a ∧ H2 a = some (.ins C dx fs) ∧ Cls K C ∧ NoAttr K C f ∧ fs.length < 1000 ∧
  D.nx σ (upd H2 a (.ins C dx (putF f y fs)))
/-- an augmented operator on two values -/
def InOp (X : Cx) (op : Operator) (rd : V → V → Hp → VK → Prop) : Prop :=
  ∀ (pins : List (Addr × Obj)) (s : Shared) (σ : St) (H : Hp) (x y : V) (u v : Value) (Q : VK), Inv X pins σ H s → RelV x u → RelV y v → rd x y H Q → wpAny (model X.prog X.w) X.A (inplaceOp op u v) (EP X pins σ Q) X.xe s
/-- e.f op= value -/
def sFldAug (K : PySem.W.Frag) (ta tv : TE) (rd : V → V → Hp → VK → Prop) (f : Str) : TS := fun D σ H => ta σ H fun x H1 => ∃ a C dx fs v, x = .ref a ∧ H1 a = some (.ins C dx fs) ∧ Cls K C ∧ NoAttr K C f ∧ fs.lookup f = some v ∧
  tv σ H1 fun y H2 => rd v y H2 fun z H3 => ∃ dx' fs', H3 a = some (.ins C dx' fs') ∧ fs'.length < 1000 ∧ D.nx σ (upd H3 a (.ins C dx' (putF f z fs')))

section
variable {X : Cx} {o e value : Expr} {f : Str} {pos pos' tpos : Pos} {ta tv : TE}
theorem pe_fld (he : PE X e ta) (hb : attributeBase e f X.env (eval e X.env) = eval e X.env) : PE X (.Attribute e f pos) (tFld X.K ta f) := by
  intro pins s σ H Q I h
  refine attr_of hb (thn (he pins s σ H _ I h) fun u s1 ⟨x, H1, I1, rx, a, C, dx, fs, v, ex, ea, c, n, l, q⟩ => ?_)
  subst ex
  obtain rfl : u = Value.ref a := rx
  exact getattr_ok I1 ea c n l fun u' s2 I2 ru => ⟨v, H1, I2, ru, q⟩
theorem pe_con (he : PE X e ta) (hb : attributeBase e f X.env (eval e X.env) = eval e X.env) : PE X (.Attribute e f pos) (tCon X.K ta f) := by
  intro pins s σ H Q I h
  refine attr_of hb (thn (he pins s σ H _ I h) fun u s1 ⟨x, H1, I1, rx, a, C, dx, fs, v, u0, ex, ea, c, k, l, q⟩ => ?_)
  subst ex
  obtain rfl : u = Value.ref a := rx
  exact getcon_ok I1 ea c k l fun s2 I2 => ⟨v, H1, I2, k.rel, q⟩
theorem ps_fld (ha : PE X o ta) (hv : PE X value tv) (hs : swapsWith value (some (.Attribute o f pos')) pos.line X.env = pure false) : PS X (.Assign [.Attribute o f pos'] value pos) (sFld X.K ta tv f) := by
  intro pins s σ H D I h
  refine plainObj_wpAny_Assign_Attribute (thn (hv pins s σ H _ I h) fun u s1 ⟨y, H1, I1, ry, q⟩ => thn (ha pins s1 σ H1 _ I1 q) fun ov s2 ⟨x, H2, I2, rx, a, C, dx, fs, ex, ea, c, n, l, q2⟩ => ?_) hs
  subst ex
  obtain rfl : ov = Value.ref a := rx
  exact setattr_ok I2 ea c n l ry fun s3 I3 => ⟨σ, _, I3, q2⟩
theorem ps_fldaug {op : Operator} {rd : V → V → Hp → VK → Prop} (ha : PE X o ta) (hv : PE X value tv) (hop : InOp X op rd) : PS X (.AugAssign (.Attribute o f tpos) op value pos) (sFldAug X.K ta tv rd f) := by
  intro pins s σ H D I h
  refine wpAny_AugAssign_AttributeAny (thn (ha pins s σ H _ I h) fun ov s1 ⟨x, H1, I1, rx, a, C, dx, fs, v, ex, ea, c, n, l, q⟩ => ?_)
  subst ex
  obtain rfl : ov = Value.ref a := rx
  refine getattr_ok I1 ea c n l fun u s2 I2 ru => thn (hv pins s2 σ H1 _ I2 q) fun w3 s3 ⟨y, H2, I3, ry, q3⟩ => thn (hop pins s3 σ H2 v y u w3 _ I3 ru ry q3) fun w4 s4 ⟨z, H3, I4, rz, dx', fs', ea', l', q4⟩ => ?_
  exact setattr_ok I4 ea' c n l' rz fun s5 I5 => ⟨σ, _, I5, q4⟩
def rAdd : V → V → Hp → VK → Prop := fun x y H Q => ∃ i j, x = .int i ∧ y = .int j ∧ Q (.int (i + j)) H
def rSub : V → V → Hp → VK → Prop := fun x y H Q => ∃ i j, x = .int i ∧ y = .int j ∧ Q (.int (i - j)) H
theorem in_add : InOp X .Add rAdd := by
  rintro pins s σ H x y u v Q I rx ry ⟨i, j, rfl, rfl, q⟩
  obtain ⟨t, rfl⟩ := (show ∃ t, u = Value.int i t from rx)
  obtain ⟨t', rfl⟩ := (show ∃ t', v = Value.int j t' from ry)
  exact PyProof.Rows.iadd_int ⟨.int (i + j), H, I.tok _, ⟨_, rfl⟩, q⟩
theorem in_sub : InOp X .Sub rSub := by
  rintro pins s σ H x y u v Q I rx ry ⟨i, j, rfl, rfl, q⟩
  obtain ⟨t, rfl⟩ := (show ∃ t, u = Value.int i t from rx)
  obtain ⟨t', rfl⟩ := (show ∃ t', v = Value.int j t' from ry)
  exact PyProof.Rows.isub_int ⟨.int (i - j), H, I.tok _, ⟨_, rfl⟩, q⟩

/-- what is between an instance and its method: the tree of a method call -/
theorem methcall_of {pl : Sem Bool} {m : Str} {apos : Pos} {args : List Expr} {pins : List (Addr × Obj)} {s : Shared} {σ : St} {H : Hp} {Q : Value → Shared → Prop} {te : TE} (he : PE X e te) (I : Inv X pins σ H s)
    (h : te σ H fun x H1 => ∃ a C dx fs g, x = .ref a ∧ H1 a = some (.ins C dx fs) ∧ Cls X.K C ∧ Meth X.K C m g ∧ fs.lookup m = none ∧
      ∀ s1, Inv X pins σ H1 s1 → wpAny (model X.prog X.w) X.A (callWith pos (.ref g) [.ref a] (backTo pos (starEach args X.env)) (backToKw pos (keywordEach [] X.env))) Q X.xe s1)
    (ht : eval (.Call (.Attribute e m apos) args [] pos) X.env = (do
      let ov ← eval e X.env
      standAt apos.atName
      let (f, first) ← holding [ov] (getMethod ov m pl)
      callWith pos f first (backTo pos (starEach args X.env)) (backToKw pos (keywordEach [] X.env)))) :
    wpAny (model X.prog X.w) X.A (eval (.Call (.Attribute e m apos) args [] pos) X.env) Q X.xe s := by
  refine PySem.W.methodCall_KW (pl := pl) (thn (he pins s σ H _ I h) fun u s1 ⟨x, H1, I1, rx, a, C, dx, fs, g, ex, ea, c, k, l, q⟩ => ?_) ht
  subst ex
  obtain rfl : u = Value.ref a := rx
  exact getmeth_ok I1 ea c k l (q s1 I1)
end

/-! ### isinstance -/
section
variable {X : Cx} {pins : List (Addr × Obj)} {σ : St} {H : Hp} {s : Shared} {A : Around} {E : Value → Shared → Prop} {Q : Value → Shared → Prop} {c : Value} {b : Bool}
/-- the type of a value, as the fragment's deciders take it; for an instance its class -/
inductive TyOf (K : PySem.W.Frag) (H : Hp) : V → Value → Prop where
  | non : TyOf K H .non (.type "NoneType")
  | bl (x : Bool) : TyOf K H (.bl x) (.type "bool")
  | int (i : Int) : TyOf K H (.int i) (.type "int")
  | str (x : Str) : TyOf K H (.str x) (.type "str")
  | flt (x : UInt64) : TyOf K H (.flt x) (.type "float")
  | lst {a : Addr} {xs : List V} (e : H a = some (.lst xs)) : TyOf K H (.ref a) (.type "list")
  | frz {a : Addr} {o : Obj} {xs : List V} (e : H a = some (.frz o (.lst xs))) : TyOf K H (.ref a) (.type "list")
  | tup {a : Addr} {xs : List V} (e : H a = some (.tup xs)) : TyOf K H (.ref a) (.type "tuple")
  | dK {a : Addr} {kvs : List (Key × V)} (e : H a = some (.dK kvs)) : TyOf K H (.ref a) (.type "dict")
  | dT {a : Addr} {kvs : List (List Key × V)} (e : H a = some (.dT kvs)) : TyOf K H (.ref a) (.type "dict")
  | ins {a C dx : Addr} {fs : List (Str × V)} (e : H a = some (.ins C dx fs)) (cl : Cls K C) (ha : PySem.W.findIn K (.ref C) "__class__" = some (some (.builtin "object.__class__")))
      (hn : PySem.W.specialIn K (.builtin "object.__class__") "__get__" = some (some (.builtin "getset_descriptor.__get__"))) (htk : PySem.W.takesIn K (.builtin "object.__class__") = some true)
      (hm : PySem.W.mroIn K C (.type "object") = some true) : TyOf K H (.ref a) (.ref C)
/-- isinstance(x, c) for one class c, a built-in or an own one: kitOne's answer -/
theorem isinst_ok {x : V} {u t : Value} (I : Inv X pins σ H s) (rx : RelV x u) (ty : TyOf X.K H x t) (e : PySem.W.kitOne X.K t c = some b) (h : ∀ tk, Q (.bool b) { s with toks := tk }) :
    wpAny (model X.prog X.w) A (call (.builtin "isinstance") [u, c]) Q E s := by
  cases ty with
  | non => cases (show u = Value.none from rx); exact PySem.W.kia_one PySem.W.kitx_none I.kIn True.intro e (fun z => nomatch z) h
  | bl y => cases (show u = Value.bool y from rx); exact PySem.W.kia_one PySem.W.kitx_bool I.kIn True.intro e (fun z => nomatch z) h
  | int i => obtain ⟨t, q⟩ := (show ∃ t, u = Value.int i t from rx); cases q; exact PySem.W.kia_one PySem.W.kitx_int I.kIn True.intro e (fun z => nomatch z) h
  | str y => obtain ⟨t, q⟩ := (show ∃ t, u = Value.str y t from rx); cases q; exact PySem.W.kia_one PySem.W.kitx_str I.kIn True.intro e (fun z => nomatch z) h
  | flt y => obtain ⟨t, q⟩ := (show ∃ t, u = Value.float y t from rx); cases q; exact PySem.W.kia_one PySem.W.kitx_float I.kIn True.intro e (fun z => nomatch z) h
  | @lst a xs ea =>
    cases (show u = Value.ref a from rx)
    obtain ⟨_, _, n, _, h1⟩ := (show ObjOk X.prog X.w H s.heap a (.lst xs) from I.hok a _ ea)
    exact PySem.W.kia_one PySem.W.kitx_list I.kIn ⟨_, h1, rfl⟩ e (fun z => nomatch z) h
  | @frz a ob xs ea =>
    cases (show u = Value.ref a from rx)
    obtain ⟨_, _, _, n, _, h1⟩ := (show ObjOk X.prog X.w H s.heap a (.frz ob (.lst xs)) from I.hok a _ ea)
    exact PySem.W.kia_one PySem.W.kitx_list I.kIn ⟨_, h1, rfl⟩ e (fun z => nomatch z) h
  | @tup a xs ea =>
    cases (show u = Value.ref a from rx)
    obtain ⟨_, _, _, p⟩ := (show ObjOk X.prog X.w H s.heap a (.tup xs) from I.hok a _ ea)
    obtain ⟨o, h1, h2, _⟩ := p
    exact PySem.W.kia_one PySem.W.kitx_tuple I.kIn ⟨o, h1, h2⟩ e (fun z => nomatch z) h
  | @dK a kvs ea =>
    cases (show u = Value.ref a from rx)
    obtain ⟨_, _, vs, _, p⟩ := (show ObjOk X.prog X.w H s.heap a (.dK kvs) from I.hok a _ ea)
    obtain ⟨o, es, ep, h1, h2, _⟩ := p
    exact PySem.W.kia_one PySem.W.kitx_dict I.kIn ⟨o, h1, h2.1⟩ e (fun z => nomatch z) h
  | @dT a kvs ea =>
    cases (show u = Value.ref a from rx)
    obtain ⟨_, _, xs, _, o, es, ep, h1, h2, _⟩ := (show ObjOk X.prog X.w H s.heap a (.dT kvs) from I.hok a _ ea)
    exact PySem.W.kia_one PySem.W.kitx_dict I.kIn ⟨o, h1, h2.1⟩ e (fun z => nomatch z) h
  | @ins a C dx fs ea cl ha hn htk hm =>
    cases (show u = Value.ref a from rx)
    obtain ⟨mA, O, _⟩ := ins_get I.hok ea
    obtain ⟨od, J, _⟩ := O.look
    exact PySem.W.kia_one (PySem.W.kitx_own (cl.get _) cl.hd ha hn htk hm) I.kIn J e (fun z => nomatch z) h
end
end L2

namespace L2
open PySem PySem.Spec PyProof.Rows

/-! ### room -/
structure Room (k : Nat) (A : Around) : Prop where
  hd : A.handled = none
  gd : A.guards = some []
  dp : A.depth + 3 * k + 5 < recursionLimit
  un : A.units + 16 * k + 200 < cLine
theorem Room.mono {j k : Nat} {A : Around} (r : Room k A) (h : j ≤ k) : Room j A := ⟨r.hd, r.gd, by have := r.dp; omega, by have := r.un; omega⟩
theorem Room.deeper {k : Nat} {A : Around} (r : Room (k + 1) A) (env : Env) : Room k (A.deeper env) :=
  ⟨r.hd, r.gd, by have := r.dp; show A.depth + 1 + 3 * k + 5 < _; omega, by have := r.un; show A.units + 3 + 16 * k + 200 < _; omega⟩
theorem Room.in1 {k : Nat} {A : Around} (r : Room (k + 1) A) : Room k A.in1 :=
  ⟨r.hd, r.gd, by have := r.dp; show A.depth + 3 * k + 5 < _; omega, by have := r.un; show A.units + 1 + 16 * k + 200 < _; omega⟩
theorem make_depth {A : Around} {C : Addr} {us : List Value} {kw : List (Str × Value)} : (A.under (.builtin "type.__call__" ⟨.ref C :: us, kw⟩)).depth = A.depth + 1 := by
  first | rfl | simp [Around.under, Code.weight, Code.isCreation, Code.isGuard, Code.isCaller, Code.frames, Code.isFrame, guardIds]
theorem make_units {A : Around} {C : Addr} {us : List Value} {kw : List (Str × Value)} : (A.under (.builtin "type.__call__" ⟨.ref C :: us, kw⟩)).units = A.units + 1 := by
  first | rfl | simp [Around.under, Code.cUnits, Code.frames, Code.isFrame]
theorem Room.make {k : Nat} {A : Around} (r : Room (k + 1) A) (C : Addr) (us : List Value) (kw : List (Str × Value)) : Room k (A.under (.builtin "type.__call__" ⟨.ref C :: us, kw⟩)) :=
  ⟨r.hd, (by first | exact r.gd | (simpa [Around.under, Code.isGuard, Code.frames, Code.isFrame, guardIds] using r.gd)), by have := r.dp; rw [make_depth]; omega, by have := r.un; rw [make_units]; omega⟩
theorem Room.depth {k : Nat} {A : Around} (r : Room k A) : A.depth < recursionLimit := by have := r.dp; omega
theorem Room.units {k : Nat} {A : Around} (r : Room k A) : A.units + 64 < cLine := by have := r.un; omega
theorem Room.units0 {k : Nat} {A : Around} (r : Room k A) : A.units < cLine := by have := r.un; omega

/-! ### argument lists and displays -/
def tNil : TA := fun _ H Q => Q [] H
def tCons (ta : TE) (tr : TA) : TA := fun σ H Q => ta σ H fun x H1 => tr σ H1 fun xs H2 => Q (x :: xs) H2
section
variable {X : Cx} {e : Expr} {es : List Expr} {te : TE} {t : TA} {pos : Pos}
theorem pa_nil : PA X [] tNil := fun _ _ _ _ H Q I h => Calls.spliced_nil ⟨[], H, I, .nil, h⟩
theorem pa_cons (ha : PE X e te) (hr : PA X es t) (hs : starEach (e :: es) X.env = (false, eval e X.env) :: starEach es X.env := by rfl) : PA X (e :: es) (tCons te t) := by
  intro pos pins s σ H Q I h
  rw [hs]
  show wpAny _ _ (spliced ((false, eval e X.env) :: backTo pos (starEach es X.env))) _ _ s
  refine Calls.spliced_cons (thn (ha pins s σ H _ I h) fun u s1 ⟨x, H1, I1, r1, q1⟩ => ?_)
  exact thn (hr pos pins s1 σ H1 _ I1 q1) fun us s2 ⟨xs, H2, I2, r2, q2⟩ => ⟨x :: xs, H2, I2, .cons r1 r2, q2⟩

/-- a tuple, a list of written items -/
def tTup (t : TA) : TE := fun σ H Q => t σ H fun xs H1 => xs.length ≤ sizeLine ∧ ∀ p, H1 p = none → Q (.ref p) (upd H1 p (.tup xs))
def tLst (t : TA) : TE := fun σ H Q => t σ H fun xs H1 => xs.length ≤ sizeLine ∧ ∀ p, H1 p = none → Q (.ref p) (upd H1 p (.lst xs))
theorem pe_tup {x1} (h : PA X es t) : PE X (.Tuple es x1 pos) (tTup t) := by
  intro pins s σ H Q I hq
  refine wpAny_Tuple_spliced (thn (h pos pins s σ H _ I hq) fun us s1 ⟨xs, H1, I1, r, z, q⟩ => ⟨by rw [← r.length]; exact z, ?_⟩)
  have hf : H1 s1.heap.objs.size = none := I1.hok.fresh (Nat.le_refl _)
  refine ⟨.ref s1.heap.objs.size, upd H1 s1.heap.objs.size (.tup xs), I1.laid (t' := s1.toks) (fun b u e => Heap.get?_push_of_some _ e) (Nat.le_refl _) ?_, rfl, q _ hf⟩
  exact ⟨z, us, r, ⟨_, Heap.get?_push_size _ rfl, rfl, _, rfl⟩⟩
theorem pe_lst (h : PA X es t) : PE X (.List es pos) (tLst t) := by
  intro pins s σ H Q I hq
  refine wpAny_List_spliced (thn (h pos pins s σ H _ I hq) fun us s1 ⟨xs, H1, I1, r, z, q⟩ => ⟨by rw [← r.length]; exact z, ?_⟩)
  have hf : H1 s1.heap.objs.size = none := I1.hok.fresh (Nat.le_refl _)
  refine ⟨.ref s1.heap.objs.size, upd H1 s1.heap.objs.size (.lst xs), I1.laid (t' := s1.toks) (fun b u e => Heap.get?_push_of_some _ e) (Nat.le_refl _) ?_, rfl, q _ hf⟩
  exact ⟨z, us, 0, r, Heap.get?_push_size _ rfl⟩
end

/-! ### what a def promises -/
/-- a def's promise: the bound arguments in the parameters' order, the heap, the wanted end, the wanted exception -/
abbrev Sp := List V → Hp → VK → XK → Prop
/-- how an exception lies behind a call (file 08 gives it): the callers' frames, abstract heap and state ahead of the call, the wish, the exception, the state -/
abbrev CXT := List Env → Hp → Shared → XK → Value → Shared → Prop

/-- the state at a call -/
structure Env0 (P : Program) (w : World) (K : PySem.W.Frag) (mg : Str → Option Value) (base : Heap) (A : Around) (outer : List Env) (s : Shared) (H : Hp) : Prop where
  frames : A.frames = some outer
  mod : Mod K mg base
  bs : ∀ b o, base.get? b = some o → s.heap.get? b = some o ∧ H b = none
  bsz : base.objs.size ≤ s.heap.objs.size
  funs : s.heap.FunFrames base outer
  frf : ∀ b ∈ frs outer, H b = none
  hok : HOk P w H s.heap
  bare : AllBare s.gens
/-- a call's end -/
def CE (outer : List Env) (P : Program) (w : World) (H : Hp) (s : Shared) (Q : VK) (u : Value) (s' : Shared) : Prop :=
  ∃ v H', s'.os = s.os ∧ AllBare s'.gens ∧ Un (frs outer) [] H H' s.heap s'.heap ∧ HOk P w H' s'.heap ∧ RelV v u ∧ Q v H'
def CR (CX : CXT) (outer : List Env) (P : Program) (w : World) (H : Hp) (s : Shared) (Q : VK) (E : XK) (r : Result) (s' : Shared) : Prop :=
  match r with
  | .ok (.ret u) => CE outer P w H s Q u s'
  | .ok _ => False
  | .error e => CX outer H s E e s'
structure FnOk (P : Program) (w : World) (K : PySem.W.Frag) (mg : Str → Option Value) (base : Heap) (CX : CXT) (k : Nat) (f : Addr) (fd : FuncData) (ps : List Str) (sp : Sp) : Prop where
  len : ∀ vs H Q E, sp vs H Q E → vs.length = ps.length
  run : ∀ (A : Around) (outer : List Env) (s : Shared) (H : Hp) (args : Args) (us : List Value) (vs : List V) (Q : VK) (E : XK), Room k A → Env0 P w K mg base A outer s H → BindsTo s fd args (ps.zip us) → Vals vs us → sp vs H Q E →
    codeAny (model P w) A (.call (.ref f) args) (CR CX outer P w H s Q E) s
theorem FnOk.mono {P : Program} {w : World} {K : PySem.W.Frag} {mg : Str → Option Value} {base : Heap} {CX : CXT} {j k : Nat} {f : Addr} {fd : FuncData} {ps : List Str} {sp : Sp} (F : FnOk P w K mg base CX j f fd ps sp) (h : j ≤ k) :
    FnOk P w K mg base CX k f fd ps sp := ⟨F.len, fun A outer s H args us vs Q E hr => F.run A outer s H args us vs Q E (hr.mono h)⟩
/-- a weaker promise -/
theorem FnOk.imp {P : Program} {w : World} {K : PySem.W.Frag} {mg : Str → Option Value} {base : Heap} {CX : CXT} {k : Nat} {f : Addr} {fd : FuncData} {ps : List Str} {sp sp' : Sp} (F : FnOk P w K mg base CX k f fd ps sp)
    (h : ∀ vs H Q E, sp' vs H Q E → sp vs H Q E) : FnOk P w K mg base CX k f fd ps sp' :=
  ⟨fun vs H Q E q => F.len vs H Q E (h _ _ _ _ q), fun A outer s H args us vs Q E hr he hb hv hs => F.run A outer s H args us vs Q E hr he hb hv (h _ _ _ _ hs)⟩

theorem Env0.make {P : Program} {w : World} {K : PySem.W.Frag} {mg : Str → Option Value} {base : Heap} {A : Around} {outer : List Env} {s : Shared} {H : Hp} (e : Env0 P w K mg base A outer s H) (C : Addr) (us : List Value) (kw : List (Str × Value)) :
    Env0 P w K mg base (A.under (.builtin "type.__call__" ⟨.ref C :: us, kw⟩)) outer s H := ⟨by first | exact e.frames | (simpa [Around.under, Code.envs, Code.isFrame, pushEnvs] using e.frames), e.mod, e.bs, e.bsz, e.funs, e.frf, e.hok, e.bare⟩
theorem Env0.in1 {P : Program} {w : World} {K : PySem.W.Frag} {mg : Str → Option Value} {base : Heap} {A : Around} {outer : List Env} {s : Shared} {H : Hp} (e : Env0 P w K mg base A outer s H) :
    Env0 P w K mg base A.in1 outer s H := ⟨e.frames, e.mod, e.bs, e.bsz, e.funs, e.frf, e.hok, e.bare⟩

section
variable {X : Cx} {pins : List (Addr × Obj)} {σ : St} {H : Hp} {s s' : Shared}
/-- from a body: what a callee wants -/
theorem Inv.env0 (I : Inv X pins σ H s) : Env0 X.prog X.w X.K X.mg X.base X.A X.stack s H :=
  ⟨I.ok.frames, I.ok.mod, I.bs, Nat.le_trans I.ok.bsz I.sz, I.stack, I.stkFree, I.hok, I.bare⟩
/-- behind a call -/
theorem Inv.after {Q : VK} {u : Value} (I : Inv X pins σ H s) (h : CE X.stack X.prog X.w H s Q u s') : EP X pins σ Q u s' := by
  obtain ⟨v, H', os, bare, un, hok, r, q⟩ := h
  obtain ⟨hh, g, d, t, os'⟩ := s'
  obtain rfl : os' = s.os := os
  exact ⟨v, H', I.call (h' := hh) (g' := g) (d' := d) (t' := t) (ch := []) un hok bare (fun b z => absurd z (by simp)), r, q⟩
end

/-! ### calls -/
/-- f(..): the written arguments, then the defaults dvs; E: what is wanted of an exception -/
def tCall (sp : Sp) (dvs : List V) (E : XK) (t : TA) : TE := fun σ H Q => t σ H fun vs H1 => sp (vs ++ dvs) H1 Q E
/-- o.m(..) of an instance of the class at C -/
def tMeth (C : Addr) (m : Str) (sp : Sp) (dvs : List V) (E : XK) (ta : TE) (t : TA) : TE := fun σ H Q => ta σ H fun x H1 => ∃ a dx fs, x = .ref a ∧ H1 a = some (.ins C dx fs) ∧ fs.lookup m = none ∧
  t σ H1 fun vs H2 => sp (x :: (vs ++ dvs)) H2 Q E
/-- C(..): a new instance and its dict, then __init__ -/
def tMake (C : Addr) (sp : Sp) (dvs : List V) (E : XK) (t : TA) : TE := fun σ H Q => t σ H fun vs H1 => ∀ x dx, H1 x = none → H1 dx = none → dx ≠ x →
  sp (.ref x :: (vs ++ dvs)) (upd (upd H1 dx (.own x)) x (.ins C dx [])) (fun v H2 => v = .non ∧ Q (.ref x) H2) E

/-- how the parameters are bound: us the positional arguments, kw the keywords' values by name, ds the defaults that fill up -/
def Binds (K : PySem.W.Frag) (fd : FuncData) (ps : List Str) (ds : List Value) : Prop :=
  ∀ (s : Shared) (us : List Value), K.In s.heap → (us ++ ds).length = ps.length → BindsTo s fd ⟨us, []⟩ (ps.zip (us ++ ds))
/-- every parameter is given -/
theorem Binds.all {K : PySem.W.Frag} {fd : FuncData} {ps : List Str} (h : ∀ us : List Value, us.length = ps.length → bindArgs fd ⟨us, []⟩ = pure (ps.zip us)) : Binds K fd ps [] := fun s us _ hl => by
  rw [List.append_nil] at hl ⊢
  exact .of_eq (h us hl)

/-- an exception of a callee reaches what this body wants of exceptions -/
def Passes (CX : CXT) (X : Cx) (E : XK) : Prop := ∀ (pins : List (Addr × Obj)) (σ : St) (H : Hp) (s : Shared) (e : Value) (s' : Shared), Inv X pins σ H s → CX X.stack H s E e s' → X.xe e s'

section
variable {X : Cx} {CX : CXT} {k : Nat} {f C : Addr} {fd : FuncData} {ps : List Str} {sp : Sp} {dvs : List V} {ds : List Value} {E : XK} {x m : Str} {p pos apos : Pos} {e o : Expr} {es : List Expr} {ta : TE} {t : TA}

/-- the callee runs -/
theorem run_fn {pins : List (Addr × Obj)} {σ : St} {H : Hp} {s : Shared} {Q : VK} {us : List Value} {vs : List V} (F : FnOk X.prog X.w X.K X.mg X.base CX k f fd ps sp) (hr : Room k X.A) (hb : Binds X.K fd ps ds) (hd : Vals dvs ds) (hx : Passes CX X E)
    (I : Inv X pins σ H s) (r : Vals vs us) (h : sp (vs ++ dvs) H Q E) : wpAny (model X.prog X.w) X.A (call (.ref f) us) (EP X pins σ Q) X.xe s := by
  have r2 : Vals (vs ++ dvs) (us ++ ds) := r.append hd
  have hl : (us ++ ds).length = ps.length := by rw [← r2.length]; exact F.len _ _ _ _ h
  refine wpAny_call (codeAny_mono (F.run X.A X.stack s H ⟨us, []⟩ (us ++ ds) (vs ++ dvs) Q E hr I.env0 (hb s us I.kIn hl) r2 h) fun r s' hq => ?_)
  cases r with
  | error e => exact hx pins σ H s e s' I hq
  | ok fl =>
    cases fl with
    | ret u => exact I.after hq
    | next => exact False.elim hq
    | brk => exact False.elim hq
    | cont => exact False.elim hq

theorem pe_call (F : FnOk X.prog X.w X.K X.mg X.base CX k f fd ps sp) (hr : Room k X.A) (hg : Gl X x) (hm : X.mg x = some (.ref f)) (hk : PySem.W.keepIn X.K (.ref f) = true) (hb : Binds X.K fd ps ds) (hd : Vals dvs ds) (hx : Passes CX X E)
    (ha : PA X (e :: es) t) (hdb : (x == ("__debug__" : Str)) = false := by decide) (he : starEach (e :: es) X.env = (false, eval e X.env) :: starEach es X.env := by rfl) (hpl : (backTo pos (starEach es X.env)).any (·.1) = false := by rfl) :
    PE X (.Call (.Name x p) (e :: es) [] pos) (tCall sp dvs E t) := by
  intro pins s σ H Q I h
  refine wpAny_Call_Name_kw (ld_glob I hg hm ?_ hdb)
  refine PySem.W.callWith_K (h₀ := X.base) I.ok.mod.kin hk (thn (ha pos pins s σ H _ I h) fun us s1 ⟨vs, H1, I1, r, q⟩ => ⟨I1.kIn, ?_⟩) he hpl
  exact run_fn F hr hb hd hx I1 r q
theorem pe_call0 (F : FnOk X.prog X.w X.K X.mg X.base CX k f fd ps sp) (hr : Room k X.A) (hg : Gl X x) (hm : X.mg x = some (.ref f)) (hk : PySem.W.keepIn X.K (.ref f) = true) (hb : Binds X.K fd ps ds) (hd : Vals dvs ds) (hx : Passes CX X E)
    (hdb : (x == ("__debug__" : Str)) = false := by decide) : PE X (.Call (.Name x p) [] [] pos) (tCall sp dvs E tNil) := by
  intro pins s σ H Q I h
  refine wpAny_Call_Name_kw (ld_glob I hg hm ?_ hdb)
  exact PySem.W.callWith_K0 I.kIn hk (run_fn (us := []) F hr hb hd hx I .nil h)

/-- o.m(e, ..) -/
theorem pe_meth {pl : Sem Bool} (he : PE X o ta) (c : Cls X.K C) (hm : Meth X.K C m f) (F : FnOk X.prog X.w X.K X.mg X.base CX k f fd ps sp) (hr : Room k X.A) (hb : Binds X.K fd ps ds) (hd : Vals dvs ds) (hx : Passes CX X E) (ha : PA X (e :: es) t)
    (hst : starEach (e :: es) X.env = (false, eval e X.env) :: starEach es X.env := by rfl) (hpl : (backTo pos (starEach es X.env)).any (·.1) = false := by rfl)
    (ht : eval (.Call (.Attribute o m apos) (e :: es) [] pos) X.env = (do
      let ov ← eval o X.env
      standAt apos.atName
      let (f, first) ← holding [ov] (getMethod ov m pl)
      callWith pos f first (backTo pos (starEach (e :: es) X.env)) (backToKw pos (keywordEach [] X.env))) := by rfl) :
    PE X (.Call (.Attribute o m apos) (e :: es) [] pos) (tMeth C m sp dvs E ta t) := by
  intro pins s σ H Q I h
  refine PySem.W.methodCall_KW (pl := pl) (thn (he pins s σ H _ I h) fun u s1 ⟨x, H1, I1, rx, a, dx, fs, ex, ea, l, q⟩ => ?_) ht
  subst ex
  obtain rfl : u = Value.ref a := rx
  refine getmeth_ok I1 ea c hm l ?_
  refine PySem.W.callWith_K (first := [.ref a]) (h₀ := X.base) I.ok.mod.kin hm.kp (thn (ha pos pins s1 σ H1 _ I1 q) fun us s2 ⟨vs, H2, I2, r, q2⟩ => ⟨I2.kIn, ?_⟩) hst hpl
  exact run_fn (us := .ref a :: us) (vs := .ref a :: vs) F hr hb hd hx I2 (.cons rfl r) q2
/-- o.m() -/
theorem pe_meth0 {pl : Sem Bool} (he : PE X o ta) (c : Cls X.K C) (hm : Meth X.K C m f) (F : FnOk X.prog X.w X.K X.mg X.base CX k f fd ps sp) (hr : Room k X.A) (hb : Binds X.K fd ps ds) (hd : Vals dvs ds) (hx : Passes CX X E)
    (ht : eval (.Call (.Attribute o m apos) [] [] pos) X.env = (do
      let ov ← eval o X.env
      standAt apos.atName
      let (f, first) ← holding [ov] (getMethod ov m pl)
      callWith pos f first (backTo pos (starEach [] X.env)) (backToKw pos (keywordEach [] X.env))) := by rfl) :
    PE X (.Call (.Attribute o m apos) [] [] pos) (tMeth C m sp dvs E ta tNil) := by
  intro pins s σ H Q I h
  refine PySem.W.methodCall_KW (pl := pl) (thn (he pins s σ H _ I h) fun u s1 ⟨x, H1, I1, rx, a, dx, fs, ex, ea, l, q⟩ => ?_) ht
  subst ex
  obtain rfl : u = Value.ref a := rx
  refine getmeth_ok I1 ea c hm l ?_
  exact PySem.W.callWith_K0 (first := [.ref a]) I1.kIn hm.kp (run_fn (us := [.ref a]) (vs := [.ref a]) F hr hb hd hx I1 (.cons rfl .nil) q)

/-- what a class must have to be made -/
structure Mk (K : PySem.W.Frag) (C f : Addr) : Prop where
  makes : PySem.W.makesIn K C = true
  init : PySem.W.findIn K (.ref C) "__init__" = some (some (.ref f))
  fn : PySem.W.isFn K (.ref f) = true
  kp : PySem.W.keepIn K (.ref C) = true

theorem run_make {pins : List (Addr × Obj)} {σ : St} {H : Hp} {s : Shared} {Q : VK} {us : List Value} {vs : List V} (M : Mk X.K C f) (F : FnOk X.prog X.w X.K X.mg X.base CX k f fd ps sp) (hr : Room (k + 1) X.A) (hb : Binds X.K fd ps ds) (hd : Vals dvs ds)
    (hx : Passes CX X E) (I : Inv X pins σ H s) (r : Vals vs us)
    (h : ∀ x dx, H x = none → H dx = none → dx ≠ x → sp (.ref x :: (vs ++ dvs)) (upd (upd H dx (.own x)) x (.ins C dx [])) (fun v H2 => v = .non ∧ Q (.ref x) H2) E) :
    wpAny (model X.prog X.w) X.A (call (.ref C) us) (EP X pins σ Q) X.xe s := by
  have hq := h (s.heap.objs.size + 1) s.heap.objs.size (I.hok.fresh (Nat.le_succ _)) (I.hok.fresh (Nat.le_refl _)) (Nat.ne_of_lt (Nat.lt_succ_self _))
  have I2 := Inv.made (C := C) I
  have r2 : Vals (V.ref (s.heap.objs.size + 1) :: (vs ++ dvs)) (Value.ref (s.heap.objs.size + 1) :: (us ++ ds)) := .cons rfl (r.append hd)
  have hl : (Value.ref (s.heap.objs.size + 1) :: us ++ ds).length = ps.length := by
    have e := r2.length
    rw [F.len _ _ _ _ hq] at e
    exact e.symm
  refine wpAny_call (make_map (f := f) I.kIn M.makes M.init (beq_iff_eq.mp M.fn) (codeAny_mono (F.run _ X.stack _ _ ⟨Value.ref (s.heap.objs.size + 1) :: us, []⟩ (Value.ref (s.heap.objs.size + 1) :: (us ++ ds)) _ _ E (hr.make C us [])
    (I2.env0.make C us []) (hb _ (Value.ref (s.heap.objs.size + 1) :: us) I2.kIn hl) r2 hq) fun r s' hq' => ?_))
  cases r with
  | error e => exact hx pins σ _ _ e s' I2 hq'
  | ok fl =>
    cases fl with
    | ret u =>
      obtain ⟨v, H', I3, rv, ev, q3⟩ := I2.after hq'
      subst ev
      exact ⟨rv, ⟨V.ref (s.heap.objs.size + 1), H', I3, rfl, q3⟩⟩
    | next => exact False.elim hq'
    | brk => exact False.elim hq'
    | cont => exact False.elim hq'
theorem pe_make (M : Mk X.K C f) (F : FnOk X.prog X.w X.K X.mg X.base CX k f fd ps sp) (hr : Room (k + 1) X.A) (hg : Gl X x) (hm : X.mg x = some (.ref C)) (hb : Binds X.K fd ps ds) (hd : Vals dvs ds) (hx : Passes CX X E)
    (ha : PA X (e :: es) t) (hdb : (x == ("__debug__" : Str)) = false := by decide) (he : starEach (e :: es) X.env = (false, eval e X.env) :: starEach es X.env := by rfl) (hpl : (backTo pos (starEach es X.env)).any (·.1) = false := by rfl) :
    PE X (.Call (.Name x p) (e :: es) [] pos) (tMake C sp dvs E t) := by
  intro pins s σ H Q I h
  refine wpAny_Call_Name_kw (ld_glob I hg hm ?_ hdb)
  refine PySem.W.callWith_K (h₀ := X.base) I.ok.mod.kin M.kp (thn (ha pos pins s σ H _ I h) fun us s1 ⟨vs, H1, I1, r, q⟩ => ⟨I1.kIn, ?_⟩) he hpl
  exact run_make M F hr hb hd hx I1 r q
theorem pe_make0 (M : Mk X.K C f) (F : FnOk X.prog X.w X.K X.mg X.base CX k f fd ps sp) (hr : Room (k + 1) X.A) (hg : Gl X x) (hm : X.mg x = some (.ref C)) (hb : Binds X.K fd ps ds) (hd : Vals dvs ds) (hx : Passes CX X E)
    (hdb : (x == ("__debug__" : Str)) = false := by decide) : PE X (.Call (.Name x p) [] [] pos) (tMake C sp dvs E tNil) := by
  intro pins s σ H Q I h
  refine wpAny_Call_Name_kw (ld_glob I hg hm ?_ hdb)
  exact PySem.W.callWith_K0 I.kIn M.kp (run_make (us := []) M F hr hb hd hx I .nil h)
end

/-! ### keywords -/
/-- the values of the keywords, from the left -/
def PK (X : Cx) (kws : List Keyword) (t : TA) : Prop :=
  ∀ (pos : Pos) (pins : List (Addr × Obj)) (s : Shared) (σ : St) (H : Hp) (Q : List V → Hp → Prop), Inv X pins σ H s → t σ H Q → wpAny (model X.prog X.w) X.A (evalAll ((backToKw pos (keywordEach kws X.env)).map (·.2))) (AP X pins σ Q) X.xe s
section
variable {X : Cx} {CX : CXT} {k : Nat} {f C : Addr} {fd : FuncData} {ps ks : List Str} {sp : Sp} {E : XK} {x m : Str} {p pos apos kpos : Pos} {e o : Expr} {es : List Expr} {kws : List Keyword} {te ta : TE} {t tk : TA} {nm : Option Str}
theorem pk_nil : PK X [] tNil := fun _ _ _ _ H Q I h => wpAny_evalAll_nil ⟨[], H, I, .nil, h⟩
theorem pk_cons (ha : PE X e te) (hr : PK X kws t) : PK X (⟨nm, e, kpos⟩ :: kws) (tCons te t) := by
  intro pos pins s σ H Q I h
  show wpAny _ _ (evalAll ((do let v ← eval e X.env; standAt pos; pure v) :: (backToKw pos (keywordEach kws X.env)).map (·.2))) _ _ s
  refine wpAny_evalAll_cons (wpAny_bind (thn (ha pins s σ H _ I h) fun u s1 ⟨x, H1, I1, r1, q1⟩ => wpAny_bind (wpAny_standAt (wpAny_pure ?_))))
  exact thn (hr pos pins s1 σ H1 _ I1 q1) fun us s2 ⟨xs, H2, I2, r2, q2⟩ => ⟨x :: xs, H2, I2, .cons r1 r2, q2⟩

/-- how a call with keywords binds: g puts the positional values us and the keywords' values ws (names ks) in the parameters' order, defaults among them -/
structure KBinds (K : PySem.W.Frag) (fd : FuncData) (ps ks : List Str) (g : List Value → List Value → List Value) (gV : List V → List V → List V) : Prop where
  to : ∀ (s : Shared) (us ws : List Value), K.In s.heap → (g us ws).length = ps.length → BindsTo s fd ⟨us, ks.zip ws⟩ (ps.zip (g us ws))
  rel : ∀ {vs : List V} {us : List Value} {zs : List V} {ws : List Value}, Vals vs us → Vals zs ws → Vals (gV vs zs) (g us ws)
def tCallK (sp : Sp) (gV : List V → List V → List V) (E : XK) (t tk : TA) : TE := fun σ H Q => t σ H fun vs H1 => tk σ H1 fun zs H2 => sp (gV vs zs) H2 Q E
variable {g : List Value → List Value → List Value} {gV : List V → List V → List V}
theorem run_fnk {pins : List (Addr × Obj)} {σ : St} {H : Hp} {s : Shared} {Q : VK} {us ws : List Value} {vs zs : List V} (F : FnOk X.prog X.w X.K X.mg X.base CX k f fd ps sp) (hr : Room k X.A) (hb : KBinds X.K fd ps ks g gV) (hx : Passes CX X E)
    (I : Inv X pins σ H s) (r : Vals vs us) (rz : Vals zs ws) (h : sp (gV vs zs) H Q E) : wpAny (model X.prog X.w) X.A (call (.ref f) us (ks.zip ws)) (EP X pins σ Q) X.xe s := by
  have r2 := hb.rel r rz
  have hl : (g us ws).length = ps.length := by rw [← r2.length]; exact F.len _ _ _ _ h
  refine wpAny_call (codeAny_mono (F.run X.A X.stack s H ⟨us, ks.zip ws⟩ (g us ws) (gV vs zs) Q E hr I.env0 (hb.to s us ws I.kIn hl) r2 h) fun r s' hq => ?_)
  cases r with
  | error e => exact hx pins σ H s e s' I hq
  | ok fl =>
    cases fl with
    | ret u => exact I.after hq
    | next => exact False.elim hq
    | brk => exact False.elim hq
    | cont => exact False.elim hq
/-- f(e, .., k = v, ..) -/
theorem pe_callK (F : FnOk X.prog X.w X.K X.mg X.base CX k f fd ps sp) (hr : Room k X.A) (hg : Gl X x) (hm : X.mg x = some (.ref f)) (hk : PySem.W.keepIn X.K (.ref f) = true) (hb : KBinds X.K fd ps ks g gV) (hx : Passes CX X E)
    (ha : PA X (e :: es) t) (hkw : PK X kws tk) (hall : (backToKw pos (keywordEach kws X.env)).all (·.1.isSome) = true := by rfl) (hks : (backToKw pos (keywordEach kws X.env)).filterMap (·.1) = ks := by rfl)
    (hdb : (x == ("__debug__" : Str)) = false := by decide) (he : starEach (e :: es) X.env = (false, eval e X.env) :: starEach es X.env := by rfl)
    (hpl : ((backTo pos (starEach (e :: es) X.env)).any (·.1) || (backToKw pos (keywordEach kws X.env)).any (·.1.isNone)) = false := by rfl) :
    PE X (.Call (.Name x p) (e :: es) kws pos) (tCallK sp gV E t tk) := by
  intro pins s σ H Q I h
  refine wpAny_Call_Name_kw (ld_glob I hg hm ?_ hdb)
  refine PySem.W.callWith_KW (h₀ := X.base) I.ok.mod.kin hk hall (thn (ha pos pins s σ H _ I h) fun us s1 ⟨vs, H1, I1, r, q⟩ => ?_) hpl he
  refine thn (hkw pos pins s1 σ H1 _ I1 q) fun ws s2 ⟨zs, H2, I2, rz, q2⟩ => ⟨I2.kIn, ?_⟩
  rw [hks]
  exact run_fnk F hr hb hx I2 r rz q2
end

/-! ### a def's body keeps its promise -/
/-- names: the parameters first -/
structure FnScope (N P : List Str) (sc : Scope) : Prop where
  kind : sc.kind = .function
  co : sc.isCoroutine = false
  gen : sc.isGenerator = false
  nd : N.Nodup
  pre : N.take P.length = P
  par : ∀ x ∈ P, sc.names.lookup x = some .local ∨ sc.names.lookup x = some .cell
  nofree : ∀ y ∈ sc.names, y.2 ≠ .free

theorem bindL_out {kindOf : Str → Option NameKind} {x : Str} : ∀ {binds : List (Str × Value)} {m : Str → Option Value}, (∀ v, (x, v) ∉ binds) → bindL kindOf binds m x = m x
  | [], _, _ => rfl
  | (n, v) :: r, m, h => by
    unfold bindL
    rw [bindL_out fun w hw => h w (List.mem_cons_of_mem _ hw)]
    split
    · have : x ≠ n := by rintro rfl; exact h v List.mem_cons_self
      simp [this]
    · rfl
theorem bindC_out {kindOf : Str → Option NameKind} {x : Str} : ∀ {binds : List (Str × Value)} {m : Str → Option Value}, (∀ v, (x, v) ∉ binds) → bindC kindOf binds m x = m x
  | [], _, _ => rfl
  | (n, v) :: r, m, h => by
    unfold bindC
    rw [bindC_out fun w hw => h w (List.mem_cons_of_mem _ hw)]
    split
    · rfl
    · have : x ≠ n := by rintro rfl; exact h v List.mem_cons_self
      simp [this]
theorem bindL_get {kindOf : Str → Option NameKind} {x : Str} {v : Value} : ∀ {P : List Str} {vs : List Value} {i : Nat} {m : Str → Option Value}, P.Nodup → P[i]? = some x → vs[i]? = some v → kindOf x = some .local →
    bindL kindOf (P.zip vs) m x = some v
  | [], _, _, _, _, h, _, _ => by simp at h
  | _ :: _, [], _, _, _, _, h, _ => by simp at h
  | p :: P, w :: vs, 0, m, nd, h1, h2, hk => by
    simp at h1 h2; subst h1; subst h2
    show bindL kindOf ((p, w) :: P.zip vs) m p = _
    unfold bindL
    rw [bindL_out fun v hv => (List.nodup_cons.mp nd).1 (List.of_mem_zip hv).1, if_pos hk]
    simp
  | p :: P, w :: vs, i + 1, m, nd, h1, h2, hk => by
    show bindL kindOf ((p, w) :: P.zip vs) m x = _
    unfold bindL
    exact bindL_get (i := i) (List.nodup_cons.mp nd).2 (by simpa using h1) (by simpa using h2) hk
theorem bindC_get {kindOf : Str → Option NameKind} {x : Str} {v : Value} : ∀ {P : List Str} {vs : List Value} {i : Nat} {m : Str → Option Value}, P.Nodup → P[i]? = some x → vs[i]? = some v → kindOf x ≠ some .local →
    bindC kindOf (P.zip vs) m x = some v
  | [], _, _, _, _, h, _, _ => by simp at h
  | _ :: _, [], _, _, _, _, h, _ => by simp at h
  | p :: P, w :: vs, 0, m, nd, h1, h2, hk => by
    simp at h1 h2; subst h1; subst h2
    show bindC kindOf ((p, w) :: P.zip vs) m p = _
    unfold bindC
    rw [bindC_out fun v hv => (List.nodup_cons.mp nd).1 (List.of_mem_zip hv).1, if_neg hk]
    simp
  | p :: P, w :: vs, i + 1, m, nd, h1, h2, hk => by
    show bindC kindOf ((p, w) :: P.zip vs) m x = _
    unfold bindC
    exact bindC_get (i := i) (List.nodup_cons.mp nd).2 (by simpa using h1) (by simpa using h2) hk

/-- the names' values at the entry -/
def start (N : List Str) (vs : List V) : St := vs.map some ++ List.replicate (N.length - vs.length) none

/-- the context of a def's body, at its entry; an exception leaves the frame, then lies as CX says -/
def cxOf (CX : CXT) (P : Program) (w : World) (K : PySem.W.Frag) (mg : Str → Option Value) (base : Heap) (N : List Str) (qual : Str) (scope : Scope) (f : Addr) (cd : Value) (A : Around) (outer : List Env) (s : Shared) (H : Hp) (E : XK) : Cx where
  prog := P
  w := w
  K := K
  mg := mg
  base := base
  A := A.deeper (envOfC qual scope s.heap.objs.size f cd)
  N := N
  s₀ := s
  H₀ := H
  env := envOfC qual scope s.heap.objs.size f cd
  outer := outer
  stack := envOfC qual scope s.heap.objs.size f cd :: outer
  ex := []
  calm := true
  fn := fun _ => true
  pn := []
  xe := fun e s' => wpAny (model P w) (A.deeper (envOfC qual scope s.heap.objs.size f cd)) (leaving (envOfC qual scope s.heap.objs.size f cd) e) (fun _ s'' => CX outer H s E e s'') (fun e' s'' => CX outer H s E e' s'') s'

theorem cell_has {sc : Scope} {n : Nat} {x : Str} (h : sc.names.lookup x = some .cell) : ∃ c, (cellsFrom n sc.names []).lookup x = some c := by
  have q := PySem.W.cellsFrom_some sc.names n [] (.inl h)
  exact Option.isSome_iff_exists.mp q

theorem inv_start {CX : CXT} {P : Program} {w : World} {K : PySem.W.Frag} {mg : Str → Option Value} {base : Heap} {N ps : List Str} {qual : Str} {scope : Scope} {f : Addr} {cd : Value} {A : Around} {outer : List Env} {s s1 : Shared} {H : Hp} {E : XK} {us : List Value} {vs : List V}
    (S : FnScope N ps scope) (hd : A.handled = none) (e0 : Env0 P w K mg base A outer s H) (hl : vs.length = ps.length) (r : Vals vs us)
    (x : InCallC s s.heap.objs.size (bindL (envOfC qual scope s.heap.objs.size f cd).kindOf (ps.zip us) fun _ => none) (cellsFrom (s.heap.objs.size + 1) scope.names []) (bindC (envOfC qual scope s.heap.objs.size f cd).kindOf (ps.zip us) fun _ => none) s1) :
    Inv (cxOf CX P w K mg base N qual scope f cd A outer s H E) [] (start N vs) H s1 := by
  have hpl : ps.length ≤ N.length := by have := congrArg List.length S.pre; rw [List.length_take] at this; omega
  obtain ⟨h1, tk, rfl, hk⟩ := x.done
  have noA : ∀ b : Addr, b ∉ (cxOf CX P w K mg base N qual scope f cd A outer s H E).ex := fun b z => absurd (show b ∈ ([] : List Addr) from z) (by simp)
  refine ⟨⟨e0.mod, S.kind, rfl, rfl, Nat.le_refl _, fun y z c h1 h2 => ?_, fun y hy => ?_, fun y c _ h => ?_, fun _ => hd, Around.frames_deeper e0.frames, .inr ⟨rfl, rfl⟩, fun b z => absurd z (noA b), e0.bs, e0.bsz, fun b _ _ => noA b, fun b z => absurd z (noA b), e0.funs, e0.frf⟩,
    rfl, e0.bare, Un.kept hk, ⟨_, x.toInCall.ns, fun i y v h1 h2 h3 => ?_⟩, fun y c h => ⟨_, x.cell y c h⟩, e0.hok.fresh (Nat.le_refl _), fun y c h => ?_, fun p hp => absurd (show p ∈ ([] : List (Addr × Obj)) from hp) (by simp), e0.hok.kept hk, ?_⟩
  · exact name_of_addr x.apart (PySem.mem_of_lookup h1) (PySem.mem_of_lookup h2)
  · have hy : scope.names.lookup y = some .cell ∨ scope.names.lookup y = some .free := hy
    rcases hy with hy | hy
    · exact cell_has hy
    · exact absurd rfl (S.nofree _ (PySem.mem_of_lookup hy))
  · exact Nat.le_of_lt (x.above y c (PySem.mem_of_lookup h))
  · have hi : i < vs.length := by
      unfold start at h2
      by_cases hi : i < vs.length
      · exact hi
      · rw [List.getElem?_append_right (by simpa using hi)] at h2
        rw [List.getElem?_replicate] at h2
        split at h2 <;> cases h2
    have ha : vs[i]? = some v := by
      unfold start at h2
      rw [List.getElem?_append_left (by simpa using hi), List.getElem?_map] at h2
      cases e : vs[i]? with
      | none => rw [e] at h2; cases h2
      | some a => rw [e] at h2; cases h2; rfl
    obtain ⟨u, hu, rv⟩ := r.get ha
    have hp : ps[i]? = some y := by
      rw [← S.pre, List.getElem?_take_of_lt (by omega)]; exact h1
    have ndP : ps.Nodup := by rw [← S.pre]; exact S.nd.sublist (List.take_sublist _ _)
    refine ⟨u, rv, ?_⟩
    rcases S.par y (List.mem_of_getElem? hp) with k | k
    · exact .inl ⟨k, bindL_get ndP hp hu k⟩
    · obtain ⟨c, e⟩ := cell_has (n := s.heap.objs.size + 1) k
      refine .inr ⟨.inl k, c, e, ?_⟩
      have q := x.cell y c e
      rw [bindC_get ndP hp hu (by show scope.names.lookup y ≠ _; rw [k]; decide)] at q
      exact q
  · exact e0.hok.fresh (Nat.le_of_lt (x.above y c (PySem.mem_of_lookup h)))
  · unfold start
    show _ = N.length
    rw [List.length_append, List.length_map, List.length_replicate]
    omega

/-- THE RULE: a def (or a method) of the text, by its body. The body's reading t is chosen for each entry; it is run at the parameters' values -/
theorem fn_of {CX : CXT} {P : Program} {w : World} {K : PySem.W.Frag} {mg : Str → Option Value} {base : Heap} {k : Nat} {f : Addr} {name qual : Str} {params : Arguments} {body : List Stmt} {scope : Scope} {dV kV doc pm cdv ct oc : Value} {an od : Option Addr}
    {osl : Array (Option Value)} {N ps : List Str} {sp : Sp} (lk : K.lookup f = some ⟨oc, od, .func (PySem.W.fnOf name qual params body scope dV kV doc pm an cdv ct), osl⟩) (hcd : PySem.W.codeIn K cdv qual = true) (S : FnScope N ps scope)
    (len : ∀ vs H Q E, sp vs H Q E → vs.length = ps.length)
    (hbody : ∀ (A : Around) (outer : List Env) (s : Shared) (H : Hp) (vs : List V) (Q : VK) (E : XK), Room k (A.deeper (envOfC qual scope s.heap.objs.size f cdv)) → sp vs H Q E →
      ∃ t, PSs (cxOf CX P w K mg base N qual scope f cdv A outer s H E) body t ∧ t { nx := fun _ H' => Q .non H', rt := Q } (start N vs) H) :
    FnOk P w K mg base CX (k + 1) f (PySem.W.fnOf name qual params body scope dV kV doc pm an cdv ct) ps sp := by
  refine ⟨len, fun A outer s H args us vs Q E hr e0 hb r hsp => ?_⟩
  have hl := len _ _ _ _ hsp
  have KX : K.In s.heap := e0.mod.kin.keeps fun b o e => (e0.bs b o e).1
  have lim : s.heap.NoLimit := e0.mod.nolimit.keeps fun b o e => (e0.bs b o e).1
  have hkind : ∀ y ∈ ps.zip us, scope.names.lookup y.1 = some .local ∨ (scope.names.lookup y.1 = some .cell ∧ ((cellsFrom (s.heap.objs.size + 1) scope.names []).lookup y.1).isSome = true) := fun ⟨n, v⟩ hy => by
    rcases S.par n (List.of_mem_zip hy).1 with q | q
    · exact .inl q
    · exact .inr ⟨q, PySem.W.cellsFrom_some _ _ _ (.inl q)⟩
  refine codeAny_call_function hr.depth (KX _ _ lk) rfl S.co S.gen rfl (PySem.W.codeRec_of KX hcd) (hb _ _ _ _ ?_)
  refine wpAny_newFunctionEnv_cells S.kind hkind fun env he s1 x => ?_
  subst he
  refine ⟨lim.keeps x.toInCall.keep, codeAny_func ?_⟩
  obtain ⟨t, ht, hq⟩ := hbody A outer s H vs Q E (hr.deeper _) hsp
  have I : Inv (cxOf CX P w K mg base N qual scope f cdv A outer s H E) [] (start N vs) H s1 := inv_start S hr.hd e0 hl r x
  refine wpAny_mono (ht [] s1 (start N vs) H _ I hq) (fun fl s' hs => ?_) fun e s' hs => hs
  have fin : ∀ {σ' : St} {H' : Hp} {v : V} {u : Value}, Inv (cxOf CX P w K mg base N qual scope f cdv A outer s H E) [] σ' H' s' → RelV v u → Q v H' → CE outer P w H s Q u s' :=
    fun {σ' H' v u} J rv q => ⟨v, H', J.os, J.bare, J.base, J.hok, rv, q⟩
  cases fl with
  | ret u =>
    obtain ⟨v, σ', H', J, rv, q⟩ := hs
    exact fin J rv q
  | next =>
    obtain ⟨σ', H', J, q⟩ := hs
    exact fin (v := V.non) (u := Value.none) J rfl q
  | brk =>
    obtain ⟨_, _, _, q⟩ := hs
    exact False.elim q
  | cont =>
    obtain ⟨_, _, _, q⟩ := hs
    exact False.elim q
end L2

namespace L2
open PySem PySem.Spec PyProof.Rows
section
variable {X : Cx} {x : Str} {p pos : Pos} {e : Expr} {es : List Expr} {t : TA} {id T : String} {r : List V → Hp → VK → Prop}

def tCB (r : List V → Hp → VK → Prop) (t : TA) : TE := fun σ H Q => t σ H fun vs H1 => r vs H1 Q
/-- f(e, ..), f a built-in function -/
theorem pe_callB (hc : CallR X (.builtin id) r) (hg : Gl X x) (hm : X.mg x = none) (hv : bootBuiltins x = some (.builtin id)) (ha : PA X (e :: es) t) (hn : x ≠ "__name__" := by decide) (hdb : (x == ("__debug__" : Str)) = false := by decide)
    (he : starEach (e :: es) X.env = (false, eval e X.env) :: starEach es X.env := by rfl) (hpl : (backTo pos (starEach es X.env)).any (·.1) = false := by rfl) : PE X (.Call (.Name x p) (e :: es) [] pos) (tCB r t) := by
  intro pins s σ H Q I h
  refine wpAny_Call_Name_kw (ld_blt I hg hm hv ?_ hn hdb)
  exact PyProof.Rows.callWith_builtin1 (thn (ha pos pins s σ H _ I h) fun us s1 ⟨vs, H1, I1, r1, q1⟩ => hc pins s1 σ H1 vs us Q I1 r1 q1) he hpl
/-- T(e, ..), T a built-in type -/
theorem pe_callTy (hc : CallR X (.type T) r) (hg : Gl X x) (hm : X.mg x = none) (hv : bootBuiltins x = some (.type T)) (ha : PA X (e :: es) t) (hn : x ≠ "__name__" := by decide) (hdb : (x == ("__debug__" : Str)) = false := by decide)
    (he : starEach (e :: es) X.env = (false, eval e X.env) :: starEach es X.env := by rfl) (hpl : (backTo pos (starEach es X.env)).any (·.1) = false := by rfl) : PE X (.Call (.Name x p) (e :: es) [] pos) (tCB r t) := by
  intro pins s σ H Q I h
  refine wpAny_Call_Name_kw (ld_blt I hg hm hv ?_ hn hdb)
  exact PyProof.Rows.callWith_type1 (thn (ha pos pins s σ H _ I h) fun us s1 ⟨vs, H1, I1, r1, q1⟩ => hc pins s1 σ H1 vs us Q I1 r1 q1) he hpl
/-- T() -/
theorem pe_callTy0 (hc : CallR X (.type T) r) (hg : Gl X x) (hm : X.mg x = none) (hv : bootBuiltins x = some (.type T)) (hn : x ≠ "__name__" := by decide) (hdb : (x == ("__debug__" : Str)) = false := by decide) :
    PE X (.Call (.Name x p) [] [] pos) (tCB r tNil) := by
  intro pins s σ H Q I h
  refine wpAny_Call_Name_kw (ld_blt I hg hm hv ?_ hn hdb)
  exact PyProof.Rows.callWith_type0 (hc pins s σ H [] [] Q I .nil h)
end
end L2

namespace HT
open PySem PyProof.Rows

/-- t < u of tuples of ints -/
def lexLt : List Int → List Int → Bool
  | [], [] => false
  | [], _ :: _ => true
  | _ :: _, [] => false
  | x :: xs, y :: ys => if x = y then lexLt xs ys else decide (x < y)
theorem lexLt_cons (x y : Int) (xs ys : List Int) : lexLt (x :: xs) (y :: ys) = if x = y then lexLt xs ys else decide (x < y) := rfl
theorem lexLt_nil_nil : lexLt [] [] = false := rfl
theorem lexLt_nil_cons (y : Int) (ys : List Int) : lexLt [] (y :: ys) = true := rfl
theorem lexLt_cons_nil (x : Int) (xs : List Int) : lexLt (x :: xs) [] = false := rfl

theorem eqAt_int (A : Around) (s : Shared) (a : Int) (t : Tok) (c : Int) (u : Tok) : ∃ e, SeqAt.EqAt A s (.int a t) (.int c u) e ∧ (e = true ↔ a = c) :=
  ⟨(a == c), SeqAt.EqAt.int_int a t c u, by simp⟩
theorem rcLt_int (A : Around) (s : Shared) (a : Int) (t : Tok) (c : Int) (u : Tok) (prog : Program) (w : World) (E : Value → Shared → Prop) (Q : Value → Shared → Prop) (h : Q (.bool (decide (a < c))) s) :
    wpAny (model prog w) A (richCompare .Lt (.int a t) (.int c u)) Q E s :=
  (PyProof.Rows.lt_int h : wpAny (model prog w) A (compareOp .Lt (.int a t) (.int c u)) Q E s)

section
open PySem.SeqAt
open PySem.AutoSeq1 (wpAny_loadPart')
open PySem.MeetsSeq PySem.MeetsSeq2 PySem.MeetsSeq3

theorem tuple_lt_ints (l b : Addr) (items items2 : Array Value) (n n2 : Nat) (dd dd2 : Option Addr) (sl sl2 : Array (Option Value)) (ns ms : List Int) (hi : IntsAre items.toList ns) (hj : IntsAre items2.toList ms) :
    Meets (Builtin.«tuple.__lt__» ⟨[.ref l, .ref b], []⟩)
      (fun _ R s => s.heap.get? l = some { cls := .type "tuple", dict := dd, data := .seq items n, slots := sl } ∧ s.heap.get? b = some { cls := .type "tuple", dict := dd2, data := .seq items2 n2, slots := sl2 } ∧
        R (.ok (.ret (.bool (lexLt ns ms)))) s) :=
  .of_wp fun prog w A R s h => by
    obtain ⟨hp, g, d, tk, os⟩ := s; obtain ⟨hl, hb, h⟩ := h
    have f2 := AutoSeq1.sub_tuple_tuple
    have z1 : items.size = ns.length := by rw [← hi.length]; simp
    have z2 : items2.size = ms.length := by rw [← hj.length]; simp
    wp_walk using wpAny_loadPart' hl, wpAny_loadPart' hb, wpAny_forIn_list _ (fun rest b s' => b.1 = none ∧ s' = ⟨hp, g, d, tk, os⟩ ∧ ∃ (vs ws : List Value) (ns' ms' : List Int), rest = vs.zip ws ∧
      IntsAre vs ns' ∧ IntsAre ws ms' ∧ ns'.length + items2.size = ms'.length + items.size ∧ R (.ok (.ret (.bool (lexLt ns' ms')))) ⟨hp, g, d, tk, os⟩) _
    case turn =>
      rintro ⟨y, x⟩ rest b s' ⟨hb', rfl, vs, ws, ns', ms', hz, hvi, hwi, hlen, hR⟩
      cases hvi with
      | nil => rw [List.zip_nil_left] at hz; cases hz
      | cons a t hvi' =>
        cases hwi with
        | nil => rw [List.zip_nil_right] at hz; cases hz
        | cons c u hwi' =>
          rw [List.zip_cons_cons] at hz
          injection hz with hyx hrest
          injection hyx with hy hx
          subst hy hx
          rw [lexLt_cons] at hR
          simp only [List.length_cons] at hlen
          obtain ⟨e, he, hiff⟩ := eqAt_int A.in1 ⟨hp, g, d, tk, os⟩ a t c u
          refine wpAny_bind (he prog w _ _ ?_)
          cases e with
          | true =>
            rw [if_pos (hiff.mp rfl)] at hR
            wp_walk
            exact ⟨rfl, rfl, _, _, _, _, hrest, hvi', hwi', by omega, hR⟩
          | false =>
            rw [if_neg (fun q => absurd (hiff.mpr q) Bool.false_ne_true)] at hR
            have hri := rcLt_int A.in1 ⟨hp, g, d, tk, os⟩ a t c u prog w
            wp_walk using hri
            exact ⟨_, rfl, by simpa using hR⟩
    case fin =>
      rintro ⟨b1, b2⟩ s' ⟨hb', rfl, vs, ws, ns', ms', hz, hvi, hwi, hlen, hR⟩
      simp only at hb'
      subst hb'
      have hv : lexLt ns' ms' = decide (items.size < items2.size) := by
        cases hvi with
        | nil =>
          cases hwi with
          | nil =>
            simp only [List.length_nil] at hlen
            rw [lexLt_nil_nil]
            exact (decide_eq_false (by omega)).symm
          | cons c u hw =>
            simp only [List.length_nil, List.length_cons] at hlen
            rw [lexLt_nil_cons]
            exact (decide_eq_true (by omega)).symm
        | cons a t hv =>
          cases hwi with
          | nil =>
            simp only [List.length_nil, List.length_cons] at hlen
            rw [lexLt_cons_nil]
            exact (decide_eq_false (by omega)).symm
          | cons c u hw =>
            rw [List.zip_cons_cons] at hz
            cases hz
      rw [hv] at hR
      wp_walk
      exact ⟨_, rfl, by simpa [Builtin.Tuple.tupleCompareSizes] using hR⟩
    case h =>
      exact ⟨rfl, rfl, items.toList, items2.toList, ns, ms, rfl, hi, hj, by omega, h⟩
end

section
variable {prog : Program} {w : World} {A : Around} {E : Value → Shared → Prop} {s : Shared}

theorem lt_tupInts {l b : Addr} {items items2 : Array Value} {ns ms : List Int} {Q : Value → Shared → Prop} (hl : IsTup s.heap l items) (hb : IsTup s.heap b items2) (hi : IntsAre items.toList ns) (hj : IntsAre items2.toList ms)
    (hu : A.units < cLine) (h : Q (.bool (lexLt ns ms)) s) : wpAny (model prog w) A (compareOp .Lt (.ref l) (.ref b)) Q E s := by
  obtain ⟨⟨cls, dd, data, sl⟩, ho, hc, n, hd⟩ := id hl
  obtain ⟨⟨cls2, dd2, data2, sl2⟩, ho2, hc2, n2, hd2⟩ := id hb
  simp only at hc hd hc2 hd2
  subst hc hd hc2 hd2
  exact richCompare_meets_room (op := .Lt) ⟨_, ho, rfl⟩ ⟨_, ho2, rfl⟩ PySem.F.slot_tuple_lt PySem.F.entry_tuple_lt (PySem.F.args_tuple_lt_2 _ _) (tuple_lt_ints l b items items2 n n2 dd dd2 sl sl2 ns ms hi hj)
    ⟨ho, ho2, show Value.bool (lexLt ns ms) ≠ Value.notImplemented ∧ Q (.bool (lexLt ns ms)) s from ⟨(fun x => nomatch x), h⟩⟩ hu

/-- t + u, t not empty -/
theorem cat_tup {t b : Addr} {vs ws : List Value} {Q : Value → Shared → Prop} (ht : IsTup s.heap t vs.toArray) (hb : IsTup s.heap b ws.toArray) (hv : vs ≠ [])
    (h1 : ws = [] → Q (.ref t) s) (h2 : ws ≠ [] → Q (.ref s.heap.objs.size) { s with heap := s.heap.push { cls := .type "tuple", data := .seq (vs ++ ws).toArray } })
    (hsz : vs.length + ws.length ≤ sizeLine) : wpAny (model prog w) A (binaryOp .Add (.ref t) (.ref b)) Q E s := by
  obtain ⟨⟨cls, dd, data, sl⟩, ho, hc, n, hd⟩ := id ht
  obtain ⟨⟨cls2, dd2, data2, sl2⟩, ho2, hc2, n2, hd2⟩ := id hb
  simp only at hc hd hc2 hd2
  subst hc hd hc2 hd2
  have e : vs.toArray ++ ws.toArray = (vs ++ ws).toArray := by simp
  by_cases hw : ws = []
  · exact concat_meets ⟨_, ho, rfl⟩ ⟨_, ho2, rfl⟩ noFill_tuple_add seq_tuple_add PySem.F.slot_tuple_add PySem.F.entry_tuple_add (PySem.F.args_tuple_add_2 _ _)
      (tuple_addW1 t b vs.toArray ws.toArray n n2 dd dd2 sl sl2 (by simpa using hv) (by simp [hw])) ⟨ho, ho2, h1 hw⟩
  · refine concat_meets ⟨_, ho, rfl⟩ ⟨_, ho2, rfl⟩ noFill_tuple_add seq_tuple_add PySem.F.slot_tuple_add PySem.F.entry_tuple_add (PySem.F.args_tuple_add_2 _ _)
      (tuple_addW2 t b vs.toArray ws.toArray n n2 dd dd2 sl sl2 (by simpa using hv) (by simpa using hw) (by rw [List.size_toArray, List.size_toArray]; exact hsz)) ⟨ho, ho2, ?_⟩
    rw [e]
    exact h2 hw

/-! ### t[a:b], not the whole -/
/-- a slice's bound as a place among n (d where it is left out) -/
def sIx (n d : Nat) : Option Int → Nat
  | none => d
  | some v => if v < 0 then (v + (n : Int)).toNat else min v.toNat n
theorem sIx_none (n d : Nat) : sIx n d none = d := rfl
theorem sIx_nat (n d k : Nat) : sIx n d (some (k : Int)) = min k n := by
  show (if (k : Int) < 0 then ((k : Int) + (n : Int)).toNat else min (k : Int).toNat n) = min k n
  rw [if_neg (by omega), Int.toNat_natCast]
theorem sIx_le (n d : Nat) (hd : d ≤ n) (o : Option Int) : sIx n d o ≤ n := by
  cases o with
  | none => exact hd
  | some v =>
    show (if v < 0 then (v + (n : Int)).toNat else min v.toNat n) ≤ n
    by_cases hv : v < 0
    · rw [if_pos hv]; omega
    · rw [if_neg hv]; exact Nat.min_le_right _ _
theorem clip_eq (v : Int) (n d : Nat) : (if v < 0 then max (v + (n : Int)) 0 else min v (n : Int)) = ((sIx n d (some v) : Nat) : Int) := by
  show (if v < 0 then max (v + (n : Int)) 0 else min v (n : Int)) = (((if v < 0 then (v + (n : Int)).toNat else min v.toNat n) : Nat) : Int)
  by_cases hv : v < 0
  · simp only [if_pos hv]; omega
  · simp only [if_neg hv]; omega
theorem adjust_gen (lo hi : Option Int) (n : Nat) : Builtin.Slice.sliceAdjust lo hi 1 (n : Int) = (((sIx n 0 lo : Nat) : Int), ((sIx n n hi : Nat) : Int)) := by
  have h1 : ¬ ((1 : Int) < 0) := by omega
  unfold Builtin.Slice.sliceAdjust
  simp only [h1, if_false]
  refine Prod.ext ?_ ?_
  · cases lo with
    | none => rfl
    | some v => exact clip_eq v n 0
  · cases hi with
    | none => rfl
    | some v => exact clip_eq v n n
theorem places_gen (i j : Nat) : Builtin.Slice.slicePlaces (i : Int) (j : Int) 1 = j - i := by
  unfold Builtin.Slice.slicePlaces
  have h1 : (1 : Int) > 0 := by omega
  simp only [h1, if_true, Int.ediv_one]
  split <;> omega
theorem slicePart_ {v : Value} {o : Option Int} {Q : Option Int → Shared → Prop} (p : IsPart v o) (h : Q o s) : wpAny (model prog w) A (Builtin.Slice.slicePartIndex v) Q E s := by
  cases p with
  | none => exact slicePart_none h
  | int i t => exact slicePart_int h
theorem sliceApplied_gen {sl : Addr} {vl vu : Value} {lo hi : Option Int} {n : Nat} {Q : Int × Int × Nat → Shared → Prop} (hs : s.heap.IsSliceOf sl vl vu .none) (pl : IsPart vl lo) (pu : IsPart vu hi)
    (h : Q (((sIx n 0 lo : Nat) : Int), 1, sIx n n hi - sIx n 0 lo) s) : wpAny (model prog w) A (Builtin.Slice.sliceApplied (.ref sl) (pure (n : Int))) Q E s := by
  obtain ⟨os, hos, hcs, hds⟩ := id hs
  unfold Builtin.Slice.sliceApplied Builtin.Slice.sliceFields
  refine wpAny_bind (wpAny_bind (wpAny_field hos hds (x := vl) rfl (wpAny_bind (wpAny_field hos hds (x := vu) rfl (wpAny_bind (wpAny_field hos hds (x := .none) rfl (wpAny_pure ?_)))))))
  refine wpAny_bind (slicePart_none ?_)
  show wpAny _ _ (if ((1 : Int) == 0) = true then _ else _) _ _ s
  rw [if_neg (by decide)]
  refine wpAny_bind (slicePart_ pl (wpAny_bind (slicePart_ pu (wpAny_bind (wpAny_pure ?_)))))
  show wpAny _ _ (match Builtin.Slice.sliceAdjust lo hi 1 (n : Int) with | (lo, hi) => pure (lo, (1 : Int), Builtin.Slice.slicePlaces lo hi 1)) _ _ s
  rw [adjust_gen lo hi n]
  show wpAny _ _ (pure (((sIx n 0 lo : Nat) : Int), (1 : Int), Builtin.Slice.slicePlaces ((sIx n 0 lo : Nat) : Int) ((sIx n n hi : Nat) : Int) 1)) _ _ s
  rw [places_gen]
  exact wpAny_pure h
theorem pick_gen (xs : Array Value) (i k : Nat) : ((List.range k).filterMap fun (m : Nat) => xs[((i : Int) + (m : Int) * 1).toNat]?).toArray = ((xs.toList.drop i).take k).toArray := by
  have e : (fun (m : Nat) => xs[((i : Int) + (m : Int) * 1).toNat]?) = fun m => xs[i + m]? := by
    funext m
    have : ((i : Int) + (m : Int) * 1).toNat = i + m := by omega
    rw [this]
  rw [e]
  have := pick_run xs i k
  rw [List.filterMap_map] at this
  have e2 : ((fun x => xs[x]?) ∘ fun x => i + x) = fun m => xs[i + m]? := rfl
  rw [e2] at this
  rw [this]

theorem getItem_tuple_cut {t sl : Addr} {items : Array Value} {vl vu : Value} {lo hi : Option Int} {Q : Value → Shared → Prop} (ht : IsTup s.heap t items) (hs : s.heap.IsSliceOf sl vl vu .none) (pl : IsPart vl lo) (pu : IsPart vu hi)
    (hw : ¬ (sIx items.size 0 lo = 0 ∧ sIx items.size items.size hi = items.size))
    (h : Q (.ref s.heap.objs.size) { s with heap := s.heap.push { cls := .type "tuple", data := .seq ((items.toList.drop (sIx items.size 0 lo)).take (sIx items.size items.size hi - sIx items.size 0 lo)).toArray } })
    (hsz : items.size ≤ sizeLine) : wpAny (model prog w) A (getItem (.ref t) (.ref sl)) Q E s := by
  have htake : sizeOk (.seq ((items.toList.drop (sIx items.size 0 lo)).take (sIx items.size items.size hi - sIx items.size 0 lo)).toArray) := by
    show ((items.toList.drop (sIx items.size 0 lo)).take (sIx items.size items.size hi - sIx items.size 0 lo)).toArray.size ≤ sizeLine
    rw [List.size_toArray, List.length_take, List.length_drop, Array.length_toList]
    omega
  have hj : sIx items.size items.size hi ≤ items.size := sIx_le _ _ (Nat.le_refl _) hi
  obtain ⟨os, hos, hcs, hds⟩ := id hs
  have hTs : s.TypeIs (.ref sl) "slice" := ⟨os, hos, hcs⟩
  unfold getItem
  try with_reducible refine wpAny_holding ?_
  first | refine wpAny_bind (wpAny_pure ?_) | skip
  refine wpAny_bind (wpAny_sequenceKey ht.typeIs (by decide) ?_)
  refine wpAny_bind (wpAny_callSpecial?_slot (name := Str.ofString "__getitem__") ht.typeIs PyProof.Rows.slot_tuple_getitem
    (wpAny_call_entry PyProof.Rows.slot_tuple_getitem ht.typeIs entry_tuple_getitem ?_ (args_tuple_getitem _ _)))
  show wpAny _ _ (Builtin.Tuple.tupleItemsOf (.ref t) >>= _) _ _ s
  refine wpAny_bind (tupleItemsOf_ ht ?_)
  refine wpAny_bind (wpAny_typeOf hTs ?_)
  rw [if_pos (by decide)]
  refine wpAny_bind (sliceApplied_gen hs pl pu ?_)
  have hno : ¬ ((((sIx items.size 0 lo : Nat) : Int) == 0 && (1 : Int) == 1 && (sIx items.size items.size hi - sIx items.size 0 lo) == items.size) = true) := by
    intro q
    rw [Bool.and_eq_true, Bool.and_eq_true] at q
    have q1 : ((sIx items.size 0 lo : Nat) : Int) = 0 := eq_of_beq q.1.1
    have q2 : sIx items.size items.size hi - sIx items.size 0 lo = items.size := eq_of_beq q.2
    exact hw ⟨by omega, by omega⟩
  show wpAny _ _ (if (((sIx items.size 0 lo : Nat) : Int) == 0 && (1 : Int) == 1 && (sIx items.size items.size hi - sIx items.size 0 lo) == items.size) = true then _ else _) _ _ s
  rw [if_neg hno, pick_gen]
  first
    | exact wpAny_bind (m := Builtin.Tuple.tupleExact _) (wpAny_newObj_type (wpAny_pure ⟨_, rfl, wpAny_pure h⟩) htake)
    | exact wpAny_bind (m := Builtin.Tuple.tupleExact _) (wpAny_newObj_type (wpAny_bind (wpAny_pure (wpAny_pure ⟨_, rfl, wpAny_pure h⟩))) htake)
    | exact wpAny_bind (wpAny_bind (m := Builtin.Tuple.tupleExact _) (wpAny_newObj_type (wpAny_pure (wpAny_pure ⟨_, rfl, wpAny_pure h⟩)) htake))
    | exact wpAny_bind (wpAny_bind (m := Builtin.Tuple.tupleExact _) (wpAny_newObj_type (wpAny_pure ⟨_, rfl, wpAny_pure h⟩) htake))
end
end HT

namespace L2
open PySem PySem.Spec PyProof.Rows

/-! ### the parts of a slice -/
abbrev TO := St → Hp → (Option Int → Hp → Prop) → Prop
/-- a slice's part (left out, or an int) -/
def PO (X : Cx) (e : Option Expr) (t : TO) : Prop :=
  ∀ (pins : List (Addr × Obj)) (s : Shared) (σ : St) (H : Hp) (Q : Option Int → Hp → Prop), Inv X pins σ H s → t σ H Q →
    wpAny (model X.prog X.w) X.A (evalPart e X.env) (fun u s' => ∃ o H', Inv X pins σ H' s' ∧ IsPart u o ∧ Q o H') X.xe s
def tNoPart : TO := fun _ H Q => Q none H
def tPart (t : TE) : TO := fun σ H Q => t σ H fun x H1 => ∃ i, x = .int i ∧ Q (some i) H1

theorem intsAre_of {ns : List Int} : ∀ {us : List Value}, Vals (ns.map V.int) us → IntsAre us ns := by
  induction ns with
  | nil => intro us r; rw [List.map_nil] at r; cases r; exact .nil
  | cons n ns ih =>
    intro us r
    rw [List.map_cons] at r
    cases r with
    | cons r1 r2 =>
      obtain ⟨t, e⟩ := r1
      subst e
      exact .cons n t (ih r2)

section
variable {X : Cx} {e : Expr} {te : TE} {lo hi : Option Expr} {tl th : TO} {pos p2 : Pos}

theorem po_none : PO X none tNoPart := by
  intro pins s σ H Q I h
  rw [evalPart_none]
  exact wpAny_pure ⟨none, H, I, .none, h⟩
theorem po_some (h : PE X e te) : PO X (some e) (tPart te) := by
  intro pins s σ H Q I hw
  rw [evalPart_some]
  refine thn (h pins s σ H _ I hw) fun u s1 ⟨x, H1, I1, r1, q1⟩ => ?_
  obtain ⟨i, rfl, q⟩ := q1
  obtain ⟨t, rfl⟩ := r1
  exact ⟨some i, H1, I1, .int i t, q⟩

/-- what a slice of a value is, by values: the slice object stands at sl -/
def SlR (X : Cx) (r : V → Option Int → Option Int → Hp → VK → Prop) : Prop :=
  ∀ (pins : List (Addr × Obj)) (s : Shared) (σ : St) (H : Hp) (x : V) (v vl vu : Value) (lo hi : Option Int) (sl : Addr) (Q : VK), Inv X pins σ H s → RelV x v → s.heap.IsSliceOf sl vl vu .none → IsPart vl lo → IsPart vu hi → r x lo hi H Q →
    ∃ T id, typeLookup (.type T) "__getitem__" = pure (some (.builtin id)) ∧ s.TypeIs v T ∧ wpAny (model X.prog X.w) X.A (getItem v (.ref sl)) (EP X pins σ Q) X.xe s
theorem SlR.or {r r' : V → Option Int → Option Int → Hp → VK → Prop} (h : SlR X r) (h' : SlR X r') : SlR X (fun x lo hi H Q => r x lo hi H Q ∨ r' x lo hi H Q) := by
  intro pins s σ H x v vl vu lo hi sl Q I rx hs pl pu q
  rcases q with q | q
  · exact h pins s σ H x v vl vu lo hi sl Q I rx hs pl pu q
  · exact h' pins s σ H x v vl vu lo hi sl Q I rx hs pl pu q
def tSl (r : V → Option Int → Option Int → Hp → VK → Prop) (te : TE) (tl th : TO) : TE := fun σ H Q => te σ H fun x H1 => tl σ H1 fun l H2 => th σ H2 fun u H3 => r x l u H3 Q
/-- a[lo:hi], any a -/
theorem pe_slice {r : V → Option Int → Option Int → Hp → VK → Prop} (hr : SlR X r) (he : PE X e te) (hl : PO X lo tl) (hu : PO X hi th) : PE X (.Subscript e (.Slice lo hi none p2) pos) (tSl r te tl th) := by
  intro pins s σ H Q I h
  refine Subscript_ (thn (he pins s σ H _ I h) fun v s1 ⟨x, H1, I1, r1, q1⟩ => ?_)
  refine wpAny_Slice (thn (hl pins s1 σ H1 _ I1 q1) fun vl s2 ⟨l, H2, I2, pl, q2⟩ => thn (hu pins s2 σ H2 _ I2 q2) fun vu s3 ⟨u, H3, I3, pu, q3⟩ => ?_)
  rw [evalPart_none]
  refine wpAny_pure ?_
  have I4 : Inv X pins σ H3 { s3 with heap := s3.heap.push { cls := .type "slice", data := .fields #[vl, vu, .none] } } := I3.kept (t' := s3.toks) fun b ob q => Heap.get?_push_of_some _ q
  obtain ⟨T, id, hT, ht, hg⟩ := hr pins { s3 with heap := s3.heap.push { cls := .type "slice", data := .fields #[vl, vu, .none] } } σ H3 x v vl vu l u s3.heap.objs.size Q I4 r1 (Heap.IsSliceOf.new ..) pl pu q3
  show wpAny (model X.prog X.w) X.A (subscriptTail e (.Slice lo hi none p2) v (.ref s3.heap.objs.size)) (EP X pins σ Q) X.xe { s3 with heap := s3.heap.push { cls := .type "slice", data := .fields #[vl, vu, .none] } }
  exact tail_any (ops := [.ref s3.heap.objs.size, v]) ht hT hg (by with_unfolding_all rfl)

/-- the items of xs[lo:hi] -/
def cutV (xs : List V) (lo hi : Option Int) : List V := (xs.drop (HT.sIx xs.length 0 lo)).take (HT.sIx xs.length xs.length hi - HT.sIx xs.length 0 lo)
theorem cutV_length (xs : List V) (lo hi : Option Int) : (cutV xs lo hi).length ≤ xs.length := by
  unfold cutV
  rw [List.length_take, List.length_drop]
  omega
/-- t[lo:hi], not the whole of it (the whole would be t itself) -/
def rSlT (K : PySem.W.Frag) : V → Option Int → Option Int → Hp → VK → Prop := fun x lo hi H Q => ∃ a xs, x = .ref a ∧ SqT K H a xs ∧
  ¬ (HT.sIx xs.length 0 lo = 0 ∧ HT.sIx xs.length xs.length hi = xs.length) ∧ ∀ p, H p = none → Q (.ref p) (upd H p (.tup (cutV xs lo hi)))
theorem sl_tup : SlR X (rSlT X.K) := by
  intro pins s σ H x v vl vu lo hi sl Q I rx hs pl pu h
  obtain ⟨a, xs, rfl, hx, hw, q⟩ := h
  cases rx
  obtain ⟨its, r, ht, hz⟩ := I.tuple hx
  have hlen : its.toArray.size = xs.length := by rw [List.size_toArray]; exact r.length.symm
  refine ⟨"tuple", _, PyProof.Rows.slot_tuple_getitem.lookup, ht.typeIs, ?_⟩
  refine HT.getItem_tuple_cut ht hs pl pu (by rw [hlen]; exact hw) ?_ (by rw [hlen]; exact hz)
  rw [hlen]
  refine ⟨.ref s.heap.objs.size, _, I.laid (t' := s.toks) (o := .tup (cutV xs lo hi)) (fun b ob q => Heap.get?_push_of_some _ q) (Nat.le_refl _) ?_, rfl, q _ (I.hok.fresh (Nat.le_refl _))⟩
  exact ⟨Nat.le_trans (cutV_length xs lo hi) hz, _, (r.drop (HT.sIx xs.length 0 lo)).take (HT.sIx xs.length xs.length hi - HT.sIx xs.length 0 lo), IsTup.new _ _⟩

/-! ### t < u, t + u -/
def rLtT (K : PySem.W.Frag) : R2 := fun x y H Q => ∃ a b ns ms, x = .ref a ∧ y = .ref b ∧ SqT K H a (ns.map V.int) ∧ SqT K H b (ms.map V.int) ∧ Q (.bl (HT.lexLt ns ms)) H
theorem op_ltT (hu : X.A.units < cLine) : OpR X (compareOp .Lt) (rLtT X.K) := by
  intro pins s σ H x y v u Q I rx ry h
  obtain ⟨a, b, ns, ms, rfl, rfl, ha, hb, q⟩ := h
  cases rx
  cases ry
  obtain ⟨its, r1, p1, _⟩ := I.tuple ha
  obtain ⟨its2, r2, p2, _⟩ := I.tuple hb
  have i1 : IntsAre its.toArray.toList ns := intsAre_of r1
  have i2 : IntsAre its2.toArray.toList ms := intsAre_of r2
  exact HT.lt_tupInts p1 p2 i1 i2 hu ⟨.bl (HT.lexLt ns ms), H, I, rfl, q⟩
/-- t + u, t not empty: u empty gives t itself -/
def rCatT (K : PySem.W.Frag) : R2 := fun x y H Q => ∃ a b xs ys, x = .ref a ∧ y = .ref b ∧ SqT K H a xs ∧ SqT K H b ys ∧ xs ≠ [] ∧ xs.length + ys.length ≤ sizeLine ∧
  (ys = [] → Q (.ref a) H) ∧ (ys ≠ [] → ∀ p, H p = none → Q (.ref p) (upd H p (.tup (xs ++ ys))))
theorem Vals.nil_iff {xs : List V} {us : List Value} (r : Vals xs us) : us = [] ↔ xs = [] := by
  cases r with
  | nil => simp
  | cons _ _ => simp
theorem op_catT : OpR X (binaryOp .Add) (rCatT X.K) := by
  intro pins s σ H x y v u Q I rx ry h
  obtain ⟨a, b, xs, ys, rfl, rfl, ha, hb, hx, hz, q1, q2⟩ := h
  cases rx
  cases ry
  obtain ⟨its, r1, p1, _⟩ := I.tuple ha
  obtain ⟨its2, r2, p2, _⟩ := I.tuple hb
  refine HT.cat_tup p1 p2 (fun z => hx (r1.nil_iff.mp z)) (fun z => ⟨.ref a, H, I, rfl, q1 (r2.nil_iff.mp z)⟩) (fun z => ?_) (by rw [← r1.length, ← r2.length]; exact hz)
  refine ⟨.ref s.heap.objs.size, _, I.laid (t' := s.toks) (o := .tup (xs ++ ys)) (fun b ob q => Heap.get?_push_of_some _ q) (Nat.le_refl _) ?_, rfl, q2 (fun w => z (r2.nil_iff.mpr w)) _ (I.hok.fresh (Nat.le_refl _))⟩
  exact ⟨by rw [List.length_append]; exact hz, _, r1.append r2, IsTup.new _ _⟩
/-- tuple(t) -/
theorem call_tupleT : CallR X (.type "tuple") (fun xs H Q => ∃ a ys, xs = [.ref a] ∧ SqT X.K H a ys ∧ Q (.ref a) H) := by
  intro pins s σ H xs us Q I r h
  obtain ⟨a, ys, rfl, ha, q⟩ := h
  obtain ⟨u, rfl, ru⟩ := vals1 r
  cases ru
  obtain ⟨its, _, p1, _⟩ := I.tuple ha
  exact call_tuple_same (items := its.toArray) p1 ⟨.ref a, H, I, rfl, q⟩
end
end L2

namespace L2
open PySem PySem.Spec PyProof.Rows

/-! ### places -/
/-- the place that an index of any sign means -/
def ixN (n : Nat) (i : Int) : Option Nat := if 0 ≤ i then (if i < n then some i.toNat else none) else if -(n : Int) ≤ i then some (i + n).toNat else none
def atI {α : Type} (xs : List α) (i : Int) : Option α := (ixN xs.length i).bind fun j => xs[j]?
theorem ixN_seq {n : Nat} {i : Int} {j : Nat} (h : ixN n i = some j) : seqIndex? i n = some j ∧ j < n ∧ -(n : Int) ≤ i ∧ i < n := by
  unfold ixN at h
  by_cases h0 : 0 ≤ i
  · rw [if_pos h0] at h
    by_cases h1 : i < n
    · rw [if_pos h1] at h
      have e : i.toNat = j := Option.some.inj h
      exact ⟨by rw [seqIndex_of h0 h1, e], by omega, by omega, h1⟩
    · rw [if_neg h1] at h; cases h
  · rw [if_neg h0] at h
    by_cases h1 : -(n : Int) ≤ i
    · rw [if_pos h1] at h
      have e : (i + n).toNat = j := Option.some.inj h
      exact ⟨by rw [seqIndex_neg (by omega) h1, e], by omega, h1, by omega⟩
    · rw [if_neg h1] at h; cases h
theorem atI_get {α : Type} {xs : List α} {i : Int} {v : α} (h : atI xs i = some v) : ∃ j, seqIndex? i xs.length = some j ∧ xs[j]? = some v ∧ j < xs.length ∧ -(xs.length : Int) ≤ i ∧ i < xs.length := by
  unfold atI at h
  cases e : ixN xs.length i with
  | none => rw [e] at h; cases h
  | some j =>
    rw [e] at h
    obtain ⟨h1, h2, h3, h4⟩ := ixN_seq e
    exact ⟨j, h1, h, h2, h3, h4⟩
theorem atI_nat {α : Type} {xs : List α} {j : Nat} {v : α} (h : xs[j]? = some v) : atI xs (j : Int) = some v := by
  have hj : j < xs.length := (List.getElem?_eq_some_iff.mp h).1
  have e : ixN xs.length (j : Int) = some j := by
    unfold ixN
    rw [if_pos (by omega), if_pos (by omega)]; simp
  unfold atI; rw [e]; exact h
theorem atI_last {α : Type} (xs : List α) (v : α) : atI (xs ++ [v]) (-1) = some v := by
  have hl : (xs ++ [v]).length = xs.length + 1 := by simp
  have e : ixN (xs ++ [v]).length (-1) = some xs.length := by
    unfold ixN
    rw [hl, if_neg (by decide), if_pos (by omega)]
    congr 1
    omega
  unfold atI
  rw [e]
  show (xs ++ [v])[xs.length]? = some v
  simp

/-! ### what may be subscripted -/
/-- what stands as an index of a plain subscript -/
def PlainIx (b : Expr) : Prop := ∀ o i, subscripted b false o i = operate [o, i] (getItem o i)
/-- a subscript by values -/
def IxR (X : Cx) (r : R2) : Prop :=
  ∀ (value slice : Expr) (pins : List (Addr × Obj)) (s : Shared) (σ : St) (H : Hp) (x y : V) (v u : Value) (Q : VK), Inv X pins σ H s → RelV x v → RelV y u → r x y H Q →
    subscripted slice false v u = operate [v, u] (getItem v u) → wpAny (model X.prog X.w) X.A (subscriptTail value slice v u) (EP X pins σ Q) X.xe s
/-- a call of a builtin's method by values: the receiver, the arguments -/
def MtR (X : Cx) (id : String) (r : V → List V → Hp → VK → Prop) : Prop :=
  ∀ (pins : List (Addr × Obj)) (s : Shared) (σ : St) (H : Hp) (x : V) (xs : List V) (v : Value) (us : List Value) (Q : VK), Inv X pins σ H s → RelV x v → Vals xs us → r x xs H Q →
    wpAny (model X.prog X.w) X.A (call (.builtin id) (v :: us)) (EP X pins σ Q) X.xe s
section
variable {X : Cx} {a b : Expr} {ta tb : TE} {pos : Pos}
theorem IxR.or {r r' : R2} (h : IxR X r) (h' : IxR X r') : IxR X (fun x y H Q => r x y H Q ∨ r' x y H Q) := by
  intro value slice pins s σ H x y v u Q I rx ry q hs
  rcases q with q | q
  · exact h value slice pins s σ H x y v u Q I rx ry q hs
  · exact h' value slice pins s σ H x y v u Q I rx ry q hs
theorem MtR.or {id : String} {r r' : V → List V → Hp → VK → Prop} (h : MtR X id r) (h' : MtR X id r') : MtR X id (fun x xs H Q => r x xs H Q ∨ r' x xs H Q) := by
  intro pins s σ H x xs v us Q I rx rs q
  rcases q with q | q
  · exact h pins s σ H x xs v us Q I rx rs q
  · exact h' pins s σ H x xs v us Q I rx rs q
/-- a[b] -/
theorem pe_ix {r : R2} (hr : IxR X r) (ha : PE X a ta) (hb : PE X b tb) (hs : PlainIx b) : PE X (.Subscript a b pos) (tOp r ta tb) := by
  intro pins s σ H Q I h
  exact Subscript_ (binT ha hb I h fun v u s2 x y H2 I2 rx ry q => hr a b pins s2 σ H2 x y v u Q I2 rx ry q (hs _ _))

def rIxL (K : PySem.W.Frag) : R2 := fun x y H Q => ∃ p xs i v, x = .ref p ∧ y = .int i ∧ SqL K H p xs ∧ atI xs i = some v ∧ Q v H
def rIxT (K : PySem.W.Frag) : R2 := fun x y H Q => ∃ p xs i v, x = .ref p ∧ y = .int i ∧ SqT K H p xs ∧ atI xs i = some v ∧ Q v H
def rIxS : R2 := fun x y H Q => ∃ z i c, x = .str z ∧ y = .int i ∧ z.length ≤ sizeLine ∧ atI z.cps.toList i = some c ∧ Q (.str ⟨#[c]⟩) H
theorem ix_list : IxR X (rIxL X.K) := by
  intro value slice pins s σ H x y v u Q I rx ry h hs
  obtain ⟨p, xs, i, z, rfl, rfl, hq, he, q⟩ := h
  cases rx
  obtain ⟨t, rfl⟩ := ry
  obtain ⟨its, r, pl, hz⟩ := I.list hq
  obtain ⟨j, h1, h2, h3, h4, h5⟩ := atI_get he
  obtain ⟨w, ew, rw'⟩ := r.get h2
  have hl := r.length
  have hn := line63
  have fin : EP X pins σ Q w s := ⟨z, H, I, rw', q⟩
  by_cases h0 : 0 ≤ i
  · have hj : i.toNat = j := by
      rw [seqIndex_of h0 h5] at h1
      exact Option.some.inj h1
    exact item_listR pl.isList h0 (by omega) (by rw [hj]; simpa using ew) fin hs
  · have hj : (i + (its.toArray.size : Int)).toNat = j := by
      rw [seqIndex_neg (by omega) h4] at h1
      rw [List.size_toArray, ← hl]
      exact Option.some.inj h1
    exact subscriptTail_builtinR (x := w) pl.isList.typeIs slot_list_getitem.lookup
      (wpAny_getItem_list_neg (Q := fun r s' => r = w ∧ EP X pins σ Q r s') pl.isList (by omega) (by rw [List.size_toArray] <;> omega) (by omega) (by rw [hj]; simpa using ew) ⟨rfl, fin⟩) hs
theorem ix_tup : IxR X (rIxT X.K) := by
  intro value slice pins s σ H x y v u Q I rx ry h hs
  obtain ⟨p, xs, i, z, rfl, rfl, hq, he, q⟩ := h
  cases rx
  obtain ⟨t, rfl⟩ := ry
  obtain ⟨its, r, pl, hz⟩ := I.tuple hq
  obtain ⟨j, h1, h2, h3, h4, h5⟩ := atI_get he
  obtain ⟨w, ew, rw'⟩ := r.get h2
  have hl := r.length
  have hn := line63
  have fin : EP X pins σ Q w s := ⟨z, H, I, rw', q⟩
  exact subscriptTail_builtinR (x := w) pl.typeIs slot_tuple_getitem.lookup
    (getItem_tuple (j := j) (Q := fun r s' => r = w ∧ EP X pins σ Q r s') pl (by omega) (by omega) (by rw [List.size_toArray, ← hl]; exact h1) (by simpa using ew) ⟨rfl, fin⟩) hs
theorem ix_str : IxR X rIxS := by
  intro value slice pins s σ H x y v u Q I rx ry h hs
  obtain ⟨z, i, c, rfl, rfl, hz, he, q⟩ := h
  obtain ⟨t, rfl⟩ := rx
  obtain ⟨t', rfl⟩ := ry
  obtain ⟨j, h1, h2, h3, h4, h5⟩ := atI_get he
  have hl : z.cps.toList.length = z.length := by simp [Str.length]
  rw [hl] at h1 h4 h5
  have hn := line63
  exact tail_any (typeIs_str s z t) slot_str_getitem.lookup (getItem_str (c := c) (by
    have e1 : decide (i < -(2 ^ 63 : Int)) = false := decide_eq_false (by omega)
    have e2 : decide (i ≥ 2 ^ 63) = false := decide_eq_false (by omega)
    rw [e1, e2, Bool.or_false]) (by rw [h1]; simpa using h2) ⟨.str ⟨#[c]⟩, H, I.tok _, ⟨_, rfl⟩, q⟩) hs
/-- list, tuple or str -/
def rIx (K : PySem.W.Frag) : R2 := fun x y H Q => rIxL K x y H Q ∨ rIxT K x y H Q ∨ rIxS x y H Q
theorem ix_seq : IxR X (rIx X.K) := ix_list.or (ix_tup.or ix_str)

/-! ### xs[i] = v, any sign -/
/-- the list's object behind a store -/
theorem mapSeq_set (its : List Value) (n j : Nat) (u : Value) : Obj.mapSeq (·.setIfInBounds j u) { cls := .type "list", data := .seq its.toArray n } = { cls := .type "list", data := .seq (its.set j u).toArray n } := by
  simp [Obj.mapSeq]
theorem Inv.lst {pins : List (Addr × Obj)} {σ : St} {H : Hp} {s : Shared} {p : Addr} {xs : List V} (I : Inv X pins σ H s) (h : H p = some (.lst xs)) :
    ∃ (its : List Value) (n : Nat), Vals xs its ∧ s.heap.get? p = some { cls := .type "list", data := .seq its.toArray n } ∧ xs.length ≤ sizeLine := by
  obtain ⟨z, its, n, r, e⟩ := I.hok p _ h
  exact ⟨its, n, r, e, z⟩
/-- the list at p is written by an update of its object -/
theorem Inv.lstUpd {pins : List (Addr × Obj)} {σ : St} {H : Hp} {s : Shared} {p : Addr} {xs ys : List V} {its its' : List Value} {n n' : Nat} {f : Obj → Obj} (I : Inv X pins σ H s) (h : H p = some (.lst xs))
    (ho : s.heap.get? p = some { cls := .type "list", data := .seq its.toArray n }) (hf : f { cls := .type "list", data := .seq its.toArray n } = { cls := .type "list", data := .seq its'.toArray n' }) (r : Vals ys its') (hz : ys.length ≤ sizeLine) (t : Nat) :
    Inv X pins σ (upd H p (.lst ys)) { s with heap := s.heap.update p f, toks := t } := by
  have e : (s.heap.update p f).get? p = some { cls := .type "list", data := .seq its'.toArray n' } := by
    rw [Heap.get?_update_self f ho (by rw [hf] <;> rfl), hf]
  refine I.write (x := p) (e := p) (by rw [h]; trivial) (.inl rfl) (fun b u hb q => (Heap.get?_update_other _ _ (Ne.symm hb)).trans q) ⟨_, e⟩ ?_
  exact ⟨hz, its', n', r, e⟩
def rSetL : V → V → V → Hp → (Hp → Prop) → Prop := fun o i v H Q => ∃ p xs k j, o = .ref p ∧ i = .int k ∧ H p = some (.lst xs) ∧ ixN xs.length k = some j ∧ Q (upd H p (.lst (xs.set j v)))
theorem set_list : PSet X rSetL := by
  intro pins s σ H o i v ov iv u Q I ro ri rv h
  obtain ⟨p, xs, k, j, rfl, rfl, hp, hj, q⟩ := h
  cases ro
  obtain ⟨t, rfl⟩ := ri
  obtain ⟨its, n, r, ho, hz⟩ := I.lst hp
  obtain ⟨h1, h2, h3, h4⟩ := ixN_seq hj
  have hl := r.length
  have hn := line63
  have I' : Inv X pins σ (upd H p (.lst (xs.set j v))) { s with heap := s.heap.update p (Obj.mapSeq (·.setIfInBounds j u)) } :=
    I.lstUpd hp ho (mapSeq_set its n j u) (r.set rv j) (by rw [List.length_set]; exact hz) s.toks
  by_cases h0 : 0 ≤ k
  · have hk : k.toNat = j := by
      rw [seqIndex_of h0 h4] at h1
      exact Option.some.inj h1
    exact PySem.W.ki_setAt ho h0 (by omega) (by rw [List.size_toArray, ← hl]; exact h4) (by rw [hk]; exact ⟨_, I', q⟩)
  · have hk : (k + (its.toArray.size : Int)).toNat = j := by
      rw [seqIndex_neg (by omega) h3] at h1
      rw [List.size_toArray, ← hl]
      exact Option.some.inj h1
    exact PySem.W.ki_setBack ho (by omega) (by rw [List.size_toArray, ← hl]; exact h3) (by omega) (by rw [hk]; exact ⟨_, I', q⟩)

/-! ### slices -/
theorem slice_bounds (lo hi : Option Int) (n : Nat) : (sliceBounds lo hi none n).1 = ((HT.sIx n 0 lo : Nat) : Int) ∧ (sliceBounds lo hi none n).2.1 = ((HT.sIx n n hi : Nat) : Int) ∧ (sliceBounds lo hi none n).2.2 = 1 := by
  refine ⟨?_, ?_, rfl⟩
  · cases lo with
    | none => simp [sliceBounds, HT.sIx]
    | some i =>
      simp only [sliceBounds, HT.sIx, Option.getD_none, show (1 : Int) > 0 by decide, if_true]
      by_cases h : i < 0
      · simp only [h, if_true] <;> omega
      · simp only [h, if_false] <;> omega
  · cases hi with
    | none => simp [sliceBounds, HT.sIx]
    | some i =>
      simp only [sliceBounds, HT.sIx, Option.getD_none, show (1 : Int) > 0 by decide, if_true]
      by_cases h : i < 0
      · simp only [h, if_true] <;> omega
      · simp only [h, if_false] <;> omega
theorem slicePick_cut (its : List Value) (lo hi : Option Int) : slicePick its.toArray lo hi none = ((its.drop (HT.sIx its.length 0 lo)).take (HT.sIx its.length its.length hi - HT.sIx its.length 0 lo)).toArray := by
  obtain ⟨h1, h2, h3⟩ := slice_bounds lo hi its.toArray.size
  unfold slicePick
  rw [h1, h2, h3]
  simp only [sliceRange_one, pick_run, List.size_toArray] <;> rfl
/-- xs[lo:hi] of a list: a new list -/
def rSlL (K : PySem.W.Frag) : V → Option Int → Option Int → Hp → VK → Prop := fun x lo hi H Q => ∃ a xs, x = .ref a ∧ SqL K H a xs ∧ ∀ p, H p = none → Q (.ref p) (upd H p (.lst (cutV xs lo hi)))
theorem sl_list : SlR X (rSlL X.K) := by
  intro pins s σ H x v vl vu lo hi sl Q I rx hs pl pu h
  obtain ⟨a, xs, rfl, hx, q⟩ := h
  cases rx
  obtain ⟨its, r, ht, hz⟩ := I.list hx
  have hlen := r.length
  refine ⟨"list", _, slot_list_getitem.lookup, ht.isList.typeIs, ?_⟩
  refine wpAny_getItem_list_slice ht.isList hs pl pu .none (by simp) ?_ (by rw [List.size_toArray] <;> omega)
  rw [slicePick_cut, ← hlen]
  refine ⟨.ref s.heap.objs.size, _, I.laid (t' := s.toks) (o := .lst (cutV xs lo hi)) (fun b ob q => Heap.get?_push_of_some _ q) (Nat.le_refl _) ?_, rfl, q _ (I.hok.fresh (Nat.le_refl _))⟩
  exact ⟨Nat.le_trans (cutV_length xs lo hi) hz, _, 0, (r.drop (HT.sIx xs.length 0 lo)).take (HT.sIx xs.length xs.length hi - HT.sIx xs.length 0 lo), Heap.get?_push_size _ rfl⟩

/-! ### in, not in: flat items -/
def flatV : V → Bool
  | .non => true
  | .bl _ => true
  | .int _ => true
  | .str _ => true
  | _ => false
/-- == of flat values -/
def eqV : V → V → Bool
  | .non, .non => true
  | .bl a, .bl b => a == b
  | .bl a, .int b => (if a then 1 else 0) == b
  | .int a, .bl b => a == (if b then 1 else 0)
  | .int a, .int b => a == b
  | .str a, .str b => a == b
  | _, _ => false
theorem eqAt_V {A : Around} {s : Shared} {y x : V} {u v : Value} (ry : RelV y u) (rx : RelV x v) (fy : flatV y = true) (fx : flatV x = true) : SeqAt.EqAt A s u v (eqV y x) := by
  cases y with
  | non =>
    cases ry
    cases x with
    | non => cases rx; exact SeqAt.EqAt.same _
    | bl b => cases rx; exact SeqAt.EqAt.none_bool b
    | int b => obtain ⟨t, rfl⟩ := rx; exact SeqAt.EqAt.none_int b t
    | str b => obtain ⟨t, rfl⟩ := rx; exact SeqAt.EqAt.none_str b t
    | _ => exact absurd (show false = true from fx) Bool.false_ne_true
  | bl a =>
    cases ry
    cases x with
    | non => cases rx; exact SeqAt.EqAt.bool_none a
    | bl b => cases rx; exact SeqAt.EqAt.bool_bool a b
    | int b => obtain ⟨t, rfl⟩ := rx; exact SeqAt.EqAt.bool_int a b t
    | str b => obtain ⟨t, rfl⟩ := rx; exact SeqAt.EqAt.bool_str a b t
    | _ => exact absurd (show false = true from fx) Bool.false_ne_true
  | int a =>
    obtain ⟨t', rfl⟩ := ry
    cases x with
    | non => cases rx; exact SeqAt.EqAt.int_none a t'
    | bl b => cases rx; exact SeqAt.EqAt.int_bool a t' b
    | int b => obtain ⟨t, rfl⟩ := rx; exact SeqAt.EqAt.int_int a t' b t
    | str b => obtain ⟨t, rfl⟩ := rx; exact SeqAt.EqAt.int_str a t' b t
    | _ => exact absurd (show false = true from fx) Bool.false_ne_true
  | str a =>
    obtain ⟨t', rfl⟩ := ry
    cases x with
    | non => cases rx; exact SeqAt.EqAt.str_none a t'
    | bl b => cases rx; exact SeqAt.EqAt.str_bool a t' b
    | int b => obtain ⟨t, rfl⟩ := rx; exact SeqAt.EqAt.str_int a t' b t
    | str b => obtain ⟨t, rfl⟩ := rx; exact SeqAt.EqAt.str_str a t' b t
    | _ => exact absurd (show false = true from fx) Bool.false_ne_true
  | _ => exact absurd (show false = true from fy) Bool.false_ne_true
/-- the items' answers, read off the values (a value's own answer does not lean on its token) -/
def eqU (x : V) (u : Value) : Bool := match u with
  | .none => eqV .non x
  | .bool b => eqV (.bl b) x
  | .int i _ => eqV (.int i) x
  | .str z _ => eqV (.str z) x
  | _ => false
theorem eqU_of {x y : V} {u : Value} (r : RelV y u) (f : flatV y = true) : eqU x u = eqV y x := by
  cases y with
  | non => cases r; rfl
  | bl b => cases r; rfl
  | int i => obtain ⟨t, rfl⟩ := r; rfl
  | str z => obtain ⟨t, rfl⟩ := r; rfl
  | _ => exact absurd (show false = true from f) Bool.false_ne_true
theorem any_eqU {x : V} : ∀ {xs : List V} {us : List Value}, Vals xs us → xs.all flatV = true → us.any (eqU x) = xs.any fun y => eqV y x
  | _, _, .nil, _ => rfl
  | y :: xs, u :: us, .cons r t, f => by
    rw [List.all_cons, Bool.and_eq_true] at f
    rw [List.any_cons, List.any_cons, eqU_of r f.1, any_eqU t f.2]
theorem mem_eqAt {A : Around} {s : Shared} {x : V} {v : Value} (rx : RelV x v) (fx : flatV x = true) : ∀ {xs : List V} {us : List Value}, Vals xs us → xs.all flatV = true → ∀ u ∈ us, SeqAt.EqAt A s u v (eqU x u)
  | _, _, .nil, _ => fun u hu => by cases hu
  | y :: xs, u :: us, .cons r t, f => fun u' hu => by
    rw [List.all_cons, Bool.and_eq_true] at f
    rcases List.mem_cons.mp hu with rfl | hu
    · rw [eqU_of r f.1]; exact eqAt_V r rx f.1 fx
    · exact mem_eqAt rx fx t f.2 u' hu
def inV (x : V) (xs : List V) : Bool := xs.any fun y => eqV y x
/-- x in a list or tuple of flat items -/
def rIn (K : PySem.W.Frag) (neg : Bool) : R2 := fun x y H Q => ∃ p xs, y = .ref p ∧ (SqL K H p xs ∨ SqT K H p xs) ∧ flatV x = true ∧ xs.all flatV = true ∧ Q (.bl (if neg then !inV x xs else inV x xs)) H
theorem op_in_seq : OpR X (compareOp .In) (rIn X.K false) := by
  intro pins s σ H x y v u Q I rx ry h
  obtain ⟨p, xs, rfl, hq, fx, fs, q⟩ := h
  cases ry
  rcases hq with hq | hq
  · obtain ⟨its, r, pl, hz⟩ := I.list hq
    refine SeqAt.in_listAt (eqU x) pl.isList (fun w hw => mem_eqAt rx fx r fs w (by simpa using hw)) ⟨.bl _, H, I, rfl, ?_⟩
    rw [show its.toArray.any (eqU x) = its.any (eqU x) by simp, any_eqU r fs]
    exact q
  · obtain ⟨its, r, pl, hz⟩ := I.tuple hq
    refine SeqAt.in_tupleAt (eqU x) pl (fun w hw => mem_eqAt rx fx r fs w (by simpa using hw)) ⟨.bl _, H, I, rfl, ?_⟩
    rw [show its.toArray.any (eqU x) = its.any (eqU x) by simp, any_eqU r fs]
    exact q
theorem op_notIn_seq : OpR X (compareOp .NotIn) (rIn X.K true) := by
  intro pins s σ H x y v u Q I rx ry h
  obtain ⟨p, xs, rfl, hq, fx, fs, q⟩ := h
  cases ry
  rcases hq with hq | hq
  · obtain ⟨its, r, pl, hz⟩ := I.list hq
    refine SeqAt.notIn_listAt (eqU x) pl.isList (fun w hw => mem_eqAt rx fx r fs w (by simpa using hw)) ⟨.bl _, H, I, rfl, ?_⟩
    rw [show its.toArray.any (eqU x) = its.any (eqU x) by simp, any_eqU r fs]
    exact q
  · obtain ⟨its, r, pl, hz⟩ := I.tuple hq
    refine SeqAt.notIn_tupleAt (eqU x) pl (fun w hw => mem_eqAt rx fx r fs w (by simpa using hw)) ⟨.bl _, H, I, rfl, ?_⟩
    rw [show its.toArray.any (eqU x) = its.any (eqU x) by simp, any_eqU r fs]
    exact q
theorem op_notIn_str : OpR X (compareOp .NotIn) (fun x y H Q => ∃ i j, x = .str i ∧ y = .str j ∧ Q (.bl (!(!(Builtin.Str.occurrences j i 0 j.length 1).isEmpty))) H) := by
  intro pins s σ H x y v u Q I rx ry h
  obtain ⟨i, j, rfl, rfl, q⟩ := h
  obtain ⟨t, rfl⟩ := rx
  obtain ⟨t', rfl⟩ := ry
  exact notIn_str ⟨.bl _, H, I, rfl, q⟩

/-! ### len, list(x), tuple(x) of any list or tuple that is read -/
theorem call_len_seq : CallR X (.builtin "len") (fun xs H Q => ∃ p ys, xs = [.ref p] ∧ (SqL X.K H p ys ∨ SqT X.K H p ys) ∧ Q (.int ys.length) H) := by
  intro pins s σ H xs us Q I r h
  obtain ⟨p, ys, rfl, hq, q⟩ := h
  obtain ⟨u, rfl, rx⟩ := vals1 r
  cases rx
  have hn := line63
  rcases hq with hq | hq
  · obtain ⟨its, r', pl, hz⟩ := I.list hq
    have hlen := r'.length
    exact Calls.call_len_list pl.isList (by simp only [List.size_toArray] <;> omega) ⟨.int ys.length, H, I.tok _, ⟨s.toks + 1, by rw [List.size_toArray, hlen]⟩, q⟩
  · obtain ⟨its, r', pl, hz⟩ := I.tuple hq
    have hlen := r'.length
    exact len_tuple pl (by simp only [List.size_toArray] <;> omega) ⟨.int ys.length, H, I.tok _, ⟨s.toks + 1, by rw [List.size_toArray, hlen]⟩, q⟩
theorem call_len_str : CallR X (.builtin "len") (fun xs H Q => ∃ z, xs = [.str z] ∧ z.length ≤ sizeLine ∧ Q (.int z.length) H) := by
  intro pins s σ H xs us Q I r h
  obtain ⟨z, rfl, hz, q⟩ := h
  obtain ⟨u, rfl, t, rfl⟩ := vals1 r
  have hn := line63
  exact len_str (by omega) ⟨.int z.length, H, I.tok _, ⟨_, rfl⟩, q⟩
theorem CallR.or {f : Value} {r r' : List V → Hp → VK → Prop} (h : CallR X f r) (h' : CallR X f r') : CallR X f (fun xs H Q => r xs H Q ∨ r' xs H Q) := by
  intro pins s σ H xs us Q I rs q
  rcases q with q | q
  · exact h pins s σ H xs us Q I rs q
  · exact h' pins s σ H xs us Q I rs q
theorem call_list_of : CallR X (.type "list") (fun xs H Q => ∃ p ys, xs = [.ref p] ∧ (SqL X.K H p ys ∨ SqT X.K H p ys) ∧ ∀ l, H l = none → Q (.ref l) (upd H l (.lst ys))) := by
  intro pins s σ H xs us Q I r h
  obtain ⟨p, ys, rfl, hq, q⟩ := h
  obtain ⟨u, rfl, rx⟩ := vals1 r
  cases rx
  have fin : ∀ (its : List Value), Vals ys its → ys.length ≤ sizeLine → ∀ (h' : Heap) (c' : Nat), (∀ b o', s.heap.get? b = some o' → h'.get? b = some o') →
      h'.get? s.heap.objs.size = some { cls := .type "list", dict := none, data := .seq its.toArray c', slots := #[] } → EP X pins σ Q (.ref s.heap.objs.size) { s with heap := h' } := fun its r' hz h' c' kp e =>
    ⟨.ref s.heap.objs.size, _, I.laid (t' := s.toks) kp (Nat.le_refl _) (show ObjOk X.prog X.w _ h' _ (.lst ys) from ⟨hz, its, c', r', e⟩), rfl, q _ (I.hok.fresh (Nat.le_refl _))⟩
  rcases hq with hq | hq
  · obtain ⟨its, r', pl, hz⟩ := I.list hq
    have hlen := r'.length
    obtain ⟨o, ho, hc, n, hd⟩ := pl.isList
    exact call_list_seq p (.inl rfl) ho hc hd (fun h' c' kp e => fin its r' hz h' c' kp e) (by simp only [List.size_toArray] <;> omega)
  · obtain ⟨its, r', pl, hz⟩ := I.tuple hq
    have hlen := r'.length
    obtain ⟨o, ho, hc, n, hd⟩ := pl
    exact call_list_seq p (.inr rfl) ho hc hd (fun h' c' kp e => fin its r' hz h' c' kp e) (by simp only [List.size_toArray] <;> omega)
theorem call_tuple_of : CallR X (.type "tuple") (fun xs H Q => ∃ p ys, xs = [.ref p] ∧ ((SqL X.K H p ys ∧ ∀ l, H l = none → Q (.ref l) (upd H l (.tup ys))) ∨ (SqT X.K H p ys ∧ Q (.ref p) H))) := by
  intro pins s σ H xs us Q I r h
  obtain ⟨p, ys, rfl, h⟩ := h
  obtain ⟨u, rfl, rx⟩ := vals1 r
  cases rx
  rcases h with ⟨hq, q⟩ | ⟨hq, q⟩
  · obtain ⟨its, r', pl, hz⟩ := I.list hq
    have hlen := r'.length
    refine call_tuple_list pl.isList (fun h' kp => ?_) (by simp only [List.size_toArray] <;> omega)
    have I1 : Inv X pins σ H { s with heap := h' } := I.kept (t' := s.toks) kp
    have I2 : Inv X pins σ (upd H h'.objs.size (.tup ys)) { s with heap := h'.push { cls := .type "tuple", data := .seq its.toArray } } :=
      I1.laid (t' := s.toks) (fun b o e => Heap.get?_push_of_some _ e) (Nat.le_refl _) (show ObjOk X.prog X.w _ _ _ (.tup ys) from ⟨hz, its, r', IsTup.new _ _⟩)
    exact ⟨.ref h'.objs.size, _, I2, rfl, q _ (I1.hok.fresh (Nat.le_refl _))⟩
  · obtain ⟨its, r', pl, hz⟩ := I.tuple hq
    exact call_tuple_same pl ⟨.ref p, H, I, rfl, q⟩

/-! ### the call of a builtin's method: o.m(..) -/
/-- the value is of that builtin type -/
def tyV (K : PySem.W.Frag) (T : String) (x : V) (H : Hp) : Prop := match x with
  | .str _ => T = "str"
  | .int _ => T = "int"
  | .ref p => (T = "list" ∧ ∃ xs, SqL K H p xs) ∨ (T = "tuple" ∧ ∃ o, K.lookup p = some o ∧ o.cls = .type "tuple" ∧ o.dict = none) ∨
      (T = "dict" ∧ ((∃ kvs, H p = some (.dK kvs)) ∨ ∃ kvs, H p = some (.dT kvs))) ∨ (T = "set" ∧ ∃ S n, H p = some (.set S n))
  | _ => False
theorem tyV_is {pins : List (Addr × Obj)} {σ : St} {H : Hp} {s : Shared} {T : String} {x : V} {v : Value} (I : Inv X pins σ H s) (r : RelV x v) (ty : tyV X.K T x H) :
    s.TypeIs v T ∧ ∀ a, v = .ref a → ∃ ob, s.heap.get? a = some ob ∧ ob.dict = none := by
  cases x with
  | str z =>
    obtain ⟨t, rfl⟩ := r
    cases (show T = "str" from ty)
    exact ⟨typeIs_str s z t, fun _ e => nomatch e⟩
  | int i =>
    obtain ⟨t, rfl⟩ := r
    cases (show T = "int" from ty)
    exact ⟨typeIs_int s i t, fun _ e => nomatch e⟩
  | ref p =>
    cases r
    rcases ty with ⟨rfl, xs, hq⟩ | ⟨rfl, o, hk, hc, hd⟩ | ⟨rfl, hk⟩ | ⟨rfl, S, n, hk⟩
    · obtain ⟨its, _, pl, _⟩ := I.list hq
      refine ⟨pl.isList.typeIs, fun a e => ?_⟩
      cases e
      obtain ⟨o, n, e, c, hd, _⟩ := pl
      exact ⟨o, e, hd⟩
    · refine ⟨⟨o, I.kIn p o hk, hc⟩, fun a e => ?_⟩
      cases e
      exact ⟨o, I.kIn _ o hk, hd⟩
    · have z : ∃ o, s.heap.get? p = some o ∧ o.ExactDict := by
        rcases hk with ⟨kvs, hk⟩ | ⟨kvs, hk⟩
        · obtain ⟨_, _, _, _, o, _, _, e, ex, _⟩ := I.hok p _ hk
          exact ⟨o, e, ex⟩
        · obtain ⟨_, _, _, _, o, _, _, e, ex, _⟩ := I.hok p _ hk
          exact ⟨o, e, ex⟩
      obtain ⟨o, e, ex⟩ := z
      refine ⟨⟨o, e, ex.1⟩, fun a e2 => ?_⟩
      cases e2
      exact ⟨o, e, ex.2.1⟩
    · obtain ⟨o, _, _, _, e, ex, _⟩ := I.hok p _ hk
      refine ⟨⟨o, e, ex.1⟩, fun a e2 => ?_⟩
      cases e2
      exact ⟨o, e, ex.2.1⟩
  | _ => exact False.elim ty
def tBM0 (K : PySem.W.Frag) (T : String) (r : V → List V → Hp → VK → Prop) (to : TE) : TE := fun σ H Q => to σ H fun x H1 => tyV K T x H1 ∧ r x [] H1 Q
def tBM (K : PySem.W.Frag) (T : String) (r : V → List V → Hp → VK → Prop) (to : TE) (t : TA) : TE := fun σ H Q => to σ H fun x H1 => tyV K T x H1 ∧ t σ H1 fun xs H2 => r x xs H2 Q
variable {o e : Expr} {es : List Expr} {to : TE} {t : TA} {name : Str} {apos cpos : Pos} {T id : String} {r : V → List V → Hp → VK → Prop}
theorem pe_bm0 (pa : PlainAttrs T) (slot : Slot T name id) (hty : typeOf (.builtin id) = pure (.type "method_descriptor")) (hm : MtR X id r) (ho : PE X o to)
    (hbase : attributeBase o name X.env (eval o X.env) = eval o X.env := by rfl) (hline : (apos.endLine == cpos.line) = true := by rfl) : PE X (.Call (.Attribute o name apos) [] [] cpos) (tBM0 X.K T r to) := by
  intro pins s σ H Q I h
  refine wpAny_Call_method0_late hbase hline (thn (ho pins s σ H _ I h) fun v s1 ⟨x, H1, I1, r1, ty, q1⟩ => ?_)
  obtain ⟨h1, h2⟩ := tyV_is I1 r1 ty
  exact ⟨T, id, pa, slot, hty, h1, h2, Calls.callWith_builtin rfl (PySem.evalArgs_none (hm pins s1 σ H1 x [] v [] Q I1 r1 .nil q1))⟩
theorem pe_bm (pa : PlainAttrs T) (slot : Slot T name id) (hty : typeOf (.builtin id) = pure (.type "method_descriptor")) (hm : MtR X id r) (ho : PE X o to) (ha : PA X (e :: es) t)
    (hbase : attributeBase o name X.env (eval o X.env) = eval o X.env := by rfl)
    (hfew : ((backTo cpos (starEach (e :: es) X.env)).all (fun x => !x.1) && (backToKw cpos (keywordEach [] X.env)).all (fun x => x.1.isSome)
      && decide ((e :: es).length + ([] : List Keyword).length + (if ([] : List Keyword).isEmpty then 0 else 1) < 30)) = true := by rfl)
    (hline : (apos.endLine == cpos.line) = true := by rfl) (hs : starEach (e :: es) X.env = (false, eval e X.env) :: starEach es X.env := by rfl) (hplain : (backTo cpos (starEach es X.env)).any (·.1) = false := by rfl) :
    PE X (.Call (.Attribute o name apos) (e :: es) [] cpos) (tBM X.K T r to t) := by
  intro pins s σ H Q I h
  refine wpAny_Call_method_late hbase hfew hline rfl (thn (ho pins s σ H _ I h) fun v s1 ⟨x, H1, I1, r1, ty, q1⟩ => ?_)
  obtain ⟨h1, h2⟩ := tyV_is I1 r1 ty
  refine ⟨T, id, pa, slot, hty, h1, h2, ?_⟩
  have hA := ha cpos pins s1 σ H1 _ I1 q1
  rw [hs] at hA ⊢
  refine Calls.callWith_builtin (by show (false || (backTo cpos (starEach es X.env)).any (·.1)) = false; rw [hplain] <;> rfl) (Calls.evalArgs_plain ?_)
  exact thn hA fun us s2 ⟨vs, H2, I2, r2, q2⟩ => hm pins s2 σ H2 x vs v us Q I2 r1 r2 q2
/- xs.append(e), list.index on a module's tuple .. are MtR facts of 06m -/
end
end L2

namespace L2
open PySem PySem.Spec PyProof.Rows

def MtM (X : Cx) (id : String) (r : V → List V → Hp → VK → Prop) : Prop :=
  ∀ (pins : List (Addr × Obj)) (s : Shared) (σ : St) (H : Hp) (x : V) (xs : List V) (v : Value) (us : List Value) (Q : VK), Inv X pins σ H s → RelV x v → Vals xs us → r x xs H Q →
    wpAny (model X.prog X.w) X.A (call (.builtin id) (v :: us)) (EP X pins σ Q) X.xe s

/-! ### lists of values -/
theorem Vals.one : ∀ {x : V} {us : List Value}, Vals [x] us → ∃ u, us = [u] ∧ RelV x u
  | _, _, .cons r .nil => ⟨_, rfl, r⟩
theorem Vals.two : ∀ {x y : V} {us : List Value}, Vals [x, y] us → ∃ u v, us = [u, v] ∧ RelV x u ∧ RelV y v
  | _, _, _, .cons r (.cons q .nil) => ⟨_, _, rfl, r, q⟩
theorem Vals.zero : ∀ {us : List Value}, Vals [] us → us = []
  | _, .nil => rfl
theorem Vals.dropLast {xs : List V} {us : List Value} (h : Vals xs us) : Vals xs.dropLast us.dropLast := by
  induction h with
  | nil => exact .nil
  | cons r t ih =>
    cases t with
    | nil => exact .nil
    | cons q t' => exact .cons r ih
theorem Vals.eraseIdx : ∀ {xs : List V} {us : List Value} (i : Nat), Vals xs us → Vals (xs.eraseIdx i) (us.eraseIdx i)
  | _, _, _, .nil => .nil
  | _, _, 0, .cons _ t => t
  | _, _, i + 1, .cons r t => .cons r (Vals.eraseIdx i t)
theorem Vals.reverse {xs : List V} {us : List Value} (h : Vals xs us) : Vals xs.reverse us.reverse := by
  induction h with
  | nil => exact .nil
  | cons r t ih => rw [List.reverse_cons, List.reverse_cons]; exact Vals.append ih (.cons r .nil)
theorem Vals.rep {xs : List V} {us : List Value} (h : Vals xs us) : ∀ k : Nat, Vals (List.replicate k xs).flatten (List.replicate k us).flatten
  | 0 => .nil
  | k + 1 => by
    rw [List.replicate_succ, List.replicate_succ, List.flatten_cons, List.flatten_cons]
    exact Vals.append h (Vals.rep h k)
theorem erase_last {α : Type} (l : List α) : l.eraseIdx (l.length - 1) = l.dropLast := by
  induction l with
  | nil => rfl
  | cons a r ih =>
    cases r with
    | nil => rfl
    | cons b r =>
      have e : (a :: b :: r).length - 1 = ((b :: r).length - 1) + 1 := by
        have h1 : (a :: b :: r).length = r.length + 2 := rfl
        have h2 : (b :: r).length = r.length + 1 := rfl
        omega
      rw [e, List.eraseIdx_cons_succ, ih]
      all_goals rfl
theorem len_erase {α : Type} : ∀ (l : List α) (i : Nat), (l.eraseIdx i).length ≤ l.length
  | [], _ => Nat.le_refl _
  | _ :: _, 0 => Nat.le_succ _
  | _ :: r, i + 1 => Nat.succ_le_succ (len_erase r i)
theorem foldl_rep (its : List Value) : ∀ (k : Nat) (acc : List Value),
    List.foldl (fun x1 x2 => x1 ++ x2) acc.toArray (List.replicate k its.toArray) = (acc ++ (List.replicate k its).flatten).toArray
  | 0, acc => by simp
  | k + 1, acc => by
    have e : acc.toArray ++ its.toArray = (acc ++ its).toArray := by simp
    have e2 : (acc ++ its) ++ (List.replicate k its).flatten = acc ++ (List.replicate (k + 1) its).flatten := by
      rw [List.replicate_succ, List.flatten_cons, List.append_assoc]
    rw [← e2, ← foldl_rep its k (acc ++ its), ← e, List.replicate_succ, List.foldl_cons]

section
variable {X : Cx} {pins : List (Addr × Obj)} {σ : St} {H : Hp} {s : Shared} {l b : Addr} {xs ys zs : List V}

/-! ### the two steps: a tracked list is rewritten, a new list is laid -/
theorem Inv.lset {its its' : List Value} {n : Nat} {f : Array Value → Array Value} {t' : Nat} (I : Inv X pins σ H s) (hH : H l = some (.lst xs))
    (e : s.heap.get? l = some { cls := .type "list", data := .seq its.toArray n }) (hf : f its.toArray = its'.toArray) (hv : Vals ys its') (hz : ys.length ≤ sizeLine) :
    Inv X pins σ (upd H l (.lst ys)) { s with heap := s.heap.update l (Obj.mapSeq f), toks := t' } := by
  have q := PySem.IsL.update e f
  rw [hf] at q
  refine I.write (x := l) (e := l) (by rw [hH]; exact trivial) (.inl rfl) (fun b' u hb hu => (Heap.get?_update_other s.heap (Obj.mapSeq f) (Ne.symm hb)).trans hu) ⟨_, q⟩ ?_
  exact ⟨hz, its', _, hv, q⟩
theorem Inv.lnew {its : List Value} {t' : Nat} (I : Inv X pins σ H s) (hv : Vals ys its) (hz : ys.length ≤ sizeLine) :
    Inv X pins σ (upd H s.heap.objs.size (.lst ys)) { s with heap := s.heap.push { cls := .type "list", data := .seq its.toArray }, toks := t' } :=
  I.laid (fun _ _ q => Heap.get?_push_of_some _ q) (Nat.le_refl _) ⟨hz, its, 0, hv, Heap.get?_push_size _ rfl⟩
theorem Inv.fresh (I : Inv X pins σ H s) : H s.heap.objs.size = none := I.hok.fresh (Nat.le_refl _)
theorem Inv.lstM (I : Inv X pins σ H s) (hH : H l = some (.lst xs)) : xs.length ≤ sizeLine ∧ ∃ (its : List Value) (n : Nat), Vals xs its ∧ xs.length = its.length ∧ s.heap.get? l = some { cls := .type "list", data := .seq its.toArray n } := by
  obtain ⟨z, its, n, r, e⟩ := I.hok l _ hH
  exact ⟨z, its, n, r, r.length, e⟩

theorem notLongL {n : Nat} (h : n ≤ sizeLine) : Builtin.List.listTooLong n = false := by
  unfold Builtin.List.listTooLong
  exact decide_eq_false (by omega)
end

section
variable {X : Cx}

/-! ### methods -/
def rAppend : V → List V → Hp → VK → Prop := fun x vs H Q => ∃ l xs y, x = .ref l ∧ vs = [y] ∧ H l = some (.lst xs) ∧ xs.length < sizeLine ∧ Q .non (upd H l (.lst (xs ++ [y])))
theorem mt_append : MtM X "list.append" rAppend := by
  intro pins s σ H x vs v us Q I rx rv h
  obtain ⟨l, xs, y, rfl, rfl, hH, hz, q⟩ := h
  cases rx
  obtain ⟨u, rfl, ru⟩ := rv.one
  obtain ⟨z, its, n, r, hl, e⟩ := I.lstM hH
  refine call_meets F.slot_list_append ⟨_, e, rfl⟩ F.entry_list_append (F.args_list_append_2 _ _) (PySem.list_append l its.toArray n u (by rw [List.size_toArray]; omega)) ⟨e, ?_⟩
  refine ⟨.non, _, I.lset (its' := its ++ [u]) hH e (by simp) (r.append (.cons ru .nil)) ?_, rfl, q⟩
  rw [List.length_append, List.length_singleton]
  omega

def rExtend : V → List V → Hp → VK → Prop := fun x vs H Q => ∃ l b xs zs, x = .ref l ∧ vs = [.ref b] ∧ H l = some (.lst xs) ∧ H b = some (.lst zs) ∧ xs.length + zs.length ≤ sizeLine ∧ Q .non (upd H l (.lst (xs ++ zs)))
theorem mt_extend : MtM X "list.extend" rExtend := by
  intro pins s σ H x vs v us Q I rx rv h
  obtain ⟨l, b, xs, zs, rfl, rfl, hH, hB, hz, q⟩ := h
  cases rx
  obtain ⟨u, rfl, ru⟩ := rv.one
  cases ru
  obtain ⟨z, its, n, r, hl, e⟩ := I.lstM hH
  obtain ⟨z2, its2, n2, r2, hl2, e2⟩ := I.lstM hB
  have hsz : its.toArray.size + its2.toArray.size ≤ sizeLine := by rw [List.size_toArray, List.size_toArray]; omega
  have hlong : ¬ (!its.toArray.isEmpty && Builtin.List.listTooLong (its.toArray.size + its2.toArray.size)) = true := by
    rw [notLongL hsz, Bool.and_false]
    exact Bool.false_ne_true
  refine call_meets F.slot_list_extend ⟨_, e, rfl⟩ F.entry_list_extend (F.args_list_extend_2 _ _)
    (AutoSeq1.list_extend_list_list_0 l its.toArray n b its2.toArray n2 hlong (by rw [List.size_toArray]; omega) (by omega)) ⟨e, e2, ?_⟩
  refine ⟨.non, _, I.lset (its' := its ++ its2) hH e (by simp) (r.append r2) ?_, rfl, q⟩
  rw [List.length_append]
  omega

def rPop : V → List V → Hp → VK → Prop := fun x vs H Q => ∃ l xs y, x = .ref l ∧ vs = [] ∧ H l = some (.lst xs) ∧ xs[xs.length - 1]? = some y ∧ Q y (upd H l (.lst xs.dropLast))
theorem mt_pop : MtM X "list.pop" rPop := by
  intro pins s σ H x vs v us Q I rx rv h
  obtain ⟨l, xs, y, rfl, rfl, hH, hy, q⟩ := h
  cases rx
  have hus := rv.zero
  subst hus
  obtain ⟨z, its, n, r, hl, e⟩ := I.lstM hH
  obtain ⟨u, hu, ru⟩ := r.get hy
  have hy' : its.toArray[its.toArray.size - 1]? = some u := by
    show its.toArray[its.length - 1]? = some u
    rw [← Array.getElem?_toList, ← hl]
    exact hu
  refine call_meets F.slot_list_pop ⟨_, e, rfl⟩ F.entry_list_pop (F.args_list_pop_1 _) (MeetsSeq.list_pop_last l its.toArray n u hy' (by rw [List.size_toArray]; omega)) ⟨e, ?_⟩
  refine ⟨y, _, I.lset (its' := its.dropLast) hH e ?_ r.dropLast ?_, ru, q⟩
  · show its.toArray.eraseIdxIfInBounds (its.toArray.size - 1) = its.dropLast.toArray
    rw [List.size_toArray, List.eraseIdxIfInBounds_toArray, erase_last]
  · rw [List.length_dropLast]
    omega

def rPopAt : V → List V → Hp → VK → Prop := fun x vs H Q => ∃ l xs i k y, x = .ref l ∧ vs = [.int i] ∧ H l = some (.lst xs) ∧ -(2 ^ 63) ≤ i ∧ i < 2 ^ 63 ∧ seqIndex? i xs.length = some k ∧ xs[k]? = some y ∧ Q y (upd H l (.lst (xs.eraseIdx k)))
theorem mt_popAt : MtM X "list.pop" rPopAt := by
  intro pins s σ H x vs v us Q I rx rv h
  obtain ⟨l, xs, i, k, y, rfl, rfl, hH, h1, h2, hk, hy, q⟩ := h
  cases rx
  obtain ⟨u, rfl, ru⟩ := rv.one
  obtain ⟨t, rfl⟩ := ru
  obtain ⟨z, its, n, r, hl, e⟩ := I.lstM hH
  obtain ⟨w, hw, rw'⟩ := r.get hy
  refine call_meets F.slot_list_pop ⟨_, e, rfl⟩ F.entry_list_pop (F.args_list_pop_2 _ _)
    (MeetsSeq.list_pop_at l its.toArray n i t k w (fitsIndex_both h1 h2) (by rw [List.size_toArray, ← hl]; exact hk) (by rw [← Array.getElem?_toList]; exact hw) (by rw [List.size_toArray]; omega)) ⟨e, ?_⟩
  refine ⟨y, _, I.lset (its' := its.eraseIdx k) hH e ?_ (r.eraseIdx k) ?_, rw', q⟩
  · show its.toArray.eraseIdxIfInBounds k = (its.eraseIdx k).toArray
    rw [List.eraseIdxIfInBounds_toArray]
  · have := len_erase xs k
    omega

def rReverse : V → List V → Hp → VK → Prop := fun x vs H Q => ∃ l xs, x = .ref l ∧ vs = [] ∧ H l = some (.lst xs) ∧ Q .non (upd H l (.lst xs.reverse))
theorem mt_reverse : MtM X "list.reverse" rReverse := by
  intro pins s σ H x vs v us Q I rx rv h
  obtain ⟨l, xs, rfl, rfl, hH, q⟩ := h
  cases rx
  have hus := rv.zero
  subst hus
  obtain ⟨z, its, n, r, hl, e⟩ := I.lstM hH
  refine call_meets F.slot_list_reverse ⟨_, e, rfl⟩ F.entry_list_reverse (F.args_list_reverse_1 _) (AutoSeq1.list_reverse_list_0 l its.toArray n (by rw [List.size_toArray]; omega)) ⟨e, ?_⟩
  refine ⟨.non, _, I.lset (its' := its.reverse) hH e (by simp) r.reverse ?_, rfl, q⟩
  rw [List.length_reverse]
  omega

def rClear : V → List V → Hp → VK → Prop := fun x vs H Q => ∃ l xs, x = .ref l ∧ vs = [] ∧ H l = some (.lst xs) ∧ Q .non (upd H l (.lst []))
theorem mt_clear : MtM X "list.clear" rClear := by
  intro pins s σ H x vs v us Q I rx rv h
  obtain ⟨l, xs, rfl, rfl, hH, q⟩ := h
  cases rx
  have hus := rv.zero
  subst hus
  obtain ⟨z, its, n, r, hl, e⟩ := I.lstM hH
  refine call_meets F.slot_list_clear ⟨_, e, rfl⟩ F.entry_list_clear (F.args_list_clear_1 _) (AutoSeq1.list_clear_list_0 l its.toArray n (by rw [List.size_toArray]; omega)) ⟨e, ?_⟩
  exact ⟨.non, _, I.lset (its' := []) (ys := []) hH e rfl .nil (Nat.zero_le _), rfl, q⟩

/-! ### list + list, list += list, list * int -/
def rCat : R2 := fun x y H Q => ∃ l b xs zs, x = .ref l ∧ y = .ref b ∧ H l = some (.lst xs) ∧ H b = some (.lst zs) ∧ xs.length + zs.length ≤ sizeLine ∧ ∀ p, H p = none → Q (.ref p) (upd H p (.lst (xs ++ zs)))
theorem op_cat : OpR X (binaryOp .Add) rCat := by
  intro pins s σ H x y v u Q I rx ry h
  obtain ⟨l, b, xs, zs, rfl, rfl, hH, hB, hz, q⟩ := h
  cases rx
  cases ry
  obtain ⟨z, its, n, r, hl, e⟩ := I.lstM hH
  obtain ⟨z2, its2, n2, r2, hl2, e2⟩ := I.lstM hB
  refine PySem.P.add_list e e2 ?_ (by rw [List.size_toArray, List.size_toArray]; omega)
  have ea : its.toArray ++ its2.toArray = (its ++ its2).toArray := by simp
  rw [ea]
  exact ⟨.ref _, _, I.lnew (t' := s.toks) (r.append r2) (by rw [List.length_append]; omega), rfl, q _ I.fresh⟩
/-- a list times an int (a negative one is nothing) -/
def rRep : R2 := fun x y H Q => ∃ l k xs, x = .ref l ∧ y = .int k ∧ H l = some (.lst xs) ∧ -(2 ^ 63) ≤ k ∧ k < 2 ^ 63 ∧ xs.length * k.toNat ≤ sizeLine ∧
  ∀ p, H p = none → Q (.ref p) (upd H p (.lst (List.replicate k.toNat xs).flatten))
theorem len_rep {α : Type} (xs : List α) (k : Nat) : (List.replicate k xs).flatten.length = k * xs.length := by
  induction k with
  | zero => simp
  | succ k ih => rw [List.replicate_succ, List.flatten_cons, List.length_append, ih, Nat.succ_mul, Nat.add_comm]
theorem op_rep : OpR X (binaryOp .Mult) rRep := by
  intro pins s σ H x y v u Q I rx ry h
  obtain ⟨l, k, xs, rfl, rfl, hH, h1, h2, hz, q⟩ := h
  cases rx
  obtain ⟨t, rfl⟩ := ry
  obtain ⟨z, its, n, r, hl, e⟩ := I.lstM hH
  have hlen : its.toArray.size * k.toNat ≤ sizeLine := by rw [List.size_toArray, ← hl]; exact hz
  have hcap : ¬ its.toArray.size * k.toNat > (2 ^ 63 - 1) / 8 := by
    have : (sizeLine : Nat) ≤ (2 ^ 63 - 1) / 8 := by decide
    omega
  have hfit : ¬ (!Builtin.List.listFitsIndex k) = true := by
    rw [fitsIndex_both h1 h2]
    exact Bool.false_ne_true
  have hlong : ¬ Builtin.List.listTooLong (its.toArray.size * k.toNat) = true := by
    rw [notLongL hlen]
    exact Bool.false_ne_true
  have hnew : List.foldl (fun x1 x2 => x1 ++ x2) #[] (List.replicate (if its.toArray.isEmpty = true then 0 else k.toNat) its.toArray) = (List.replicate k.toNat its).flatten.toArray := by
    have f0 : ∀ m : Nat, List.foldl (fun x1 x2 => x1 ++ x2) #[] (List.replicate m its.toArray) = (List.replicate m its).flatten.toArray := fun m => by
      have := foldl_rep its m []
      rw [List.nil_append] at this
      exact this
    rw [f0]
    cases its with
    | nil => simp
    | cons a r' => rw [if_neg (by simp)]
  refine wpAny_binaryOp_repeat_ref (T := "list") (U := "int") (by decide) ⟨_, e, rfl⟩ (fun s' => typeIs_int s' k t) noFill_list_mul F.fills_int_mul F.slot_int_rmul repeat_list F.slot_int_index.lookup
    (call_meets F.slot_int_rmul (typeIs_int s k t) F.entry_int_rmul (F.args_int_rmul_2 _ _) (int___rmul___int_list k t l its.toArray n)
      ⟨e, rfl, ⟨_, e, rfl⟩, call_meets F.slot_list_mul ⟨_, e, rfl⟩ F.entry_list_mul (F.args_list_mul_2 _ _) (AutoListH.list___mul___list_int_3 l its.toArray n k t hfit hcap hlong) ⟨e, ?_⟩⟩)
  rw [hnew]
  exact ⟨.ref _, _, I.lnew (t' := s.toks) (r.rep k.toNat) (by rw [len_rep, Nat.mul_comm]; exact hz), rfl, q _ I.fresh⟩

/-! ### del xs[i] -/
theorem del_list {pins : List (Addr × Obj)} {s : Shared} {σ : St} {H : Hp} {l : Addr} {xs : List V} {i : Int} {t : Tok} {k : Nat} {Q : Unit → Shared → Prop} (I : Inv X pins σ H s) (hH : H l = some (.lst xs))
    (h1 : -(2 ^ 63) ≤ i) (h2 : i < 2 ^ 63) (hk : seqIndex? i xs.length = some k) (h : ∀ s', Inv X pins σ (upd H l (.lst (xs.eraseIdx k))) s' → Q () s') :
    wpAny (model X.prog X.w) X.A (delItem (.ref l) (.int i t)) Q X.xe s := by
  obtain ⟨z, its, n, r, hl, e⟩ := I.lstM hH
  refine PySem.P.delItem_list (k := k) e (fitsIndex_both h1 h2) (by rw [List.size_toArray, ← hl]; exact hk) (h _ ?_) (by rw [List.size_toArray]; omega)
  refine I.lset (its' := its.eraseIdx k) (t' := s.toks) hH e ?_ (r.eraseIdx k) ?_
  · show its.toArray.eraseIdxIfInBounds k = (its.eraseIdx k).toArray
    rw [List.eraseIdxIfInBounds_toArray]
  · have := len_erase xs k
    omega
end

/-! ### xs[a:b] = ys -/
section
variable {prog : Program} {w : World} {A : Around} {E : Value → Shared → Prop} {s : Shared}
theorem splice_eq (its its2 : List Value) (a c : Nat) : its.toArray.extract 0 a ++ its2.toArray ++ its.toArray.extract c its.toArray.size = (its.take a ++ its2 ++ its.drop c).toArray := by
  apply Array.toList_inj.mp
  first
    | (simp
       exact List.take_of_length_le (by simp))
    | simp [List.take_of_length_le]
    | simp
theorem bounds_run {a c n : Nat} (hac : a ≤ c) (hc : c ≤ n) : sliceBounds (some (a : Int)) (some (c : Int)) none n = ((a : Int), (c : Int), 1) := by
  simp only [sliceBounds, Option.getD_none]
  have h1 : ¬ ((a : Int) < 0) := by omega
  have h2 : ¬ ((c : Int) < 0) := by omega
  simp only [h1, h2, if_false, show (1 : Int) > 0 by decide, if_true]
  congr 1
  · omega
  · congr 1; omega
set_option maxRecDepth 100000 in
/-- list.__setitem__ with a slice of step one and another list -/
theorem setItem_slice {l b sl : Addr} {items new : Array Value} {n n2 : Nat} {vl vu : Value} {a c : Nat} {Q : Unit → Shared → Prop}
    (e : s.heap.get? l = some { cls := .type "list", data := .seq items n }) (e2 : s.heap.get? b = some { cls := .type "list", data := .seq new n2 }) (hne : l ≠ b)
    (hs : s.heap.IsSliceOf sl vl vu .none) (pl : IsPart vl (some (a : Int))) (pu : IsPart vu (some (c : Int))) (hac : a ≤ c) (hc : c ≤ items.size)
    (hsz : items.size + new.size ≤ sizeLine) (h : Q () { s with heap := s.heap.update l (Obj.mapSeq fun xs => xs.extract 0 a ++ new ++ xs.extract c xs.size) }) :
    wpAny (model prog w) A (setItem (.ref l) (.ref sl) (.ref b)) Q E s := by
  have hl : s.heap.IsList l items := PySem.IsL.isList e
  have hb : s.heap.IsList b new := PySem.IsL.isList e2
  obtain ⟨os, hos, hcs, hds⟩ := id hs
  have hTs : s.TypeIs (.ref sl) "slice" := ⟨os, hos, hcs⟩
  have hstep : ¬ ((rawPart none == rawInt 0) = true) := Bool.false_ne_true
  have hsame : Builtin.List.listSameRef (.ref l) (.ref b) = false := by
    unfold Builtin.List.listSameRef
    exact beq_eq_false_iff_ne.mpr hne
  have hmax : (max (a : Int) (c : Int)).toNat = c := by omega
  have hz' : ((fun xs : Array Value => xs.extract 0 a ++ new ++ xs.extract c xs.size) items).size ≤ sizeLine + 1 := by
    simp only [Array.size_append, Array.size_extract]
    omega
  unfold setItem
  try with_reducible refine wpAny_holding ?_
  first | refine wpAny_bind (wpAny_pure ?_) | skip
  refine wpAny_bind (wpAny_sequenceKey hl.typeIs (by decide) ?_)
  refine wpAny_bind (wpAny_callSpecial?_slot (name := Str.ofString "__setitem__") hl.typeIs slot_list_setitem
    (wpAny_call_entry slot_list_setitem hl.typeIs entry_list_setitem ?_ (args_list_setitem _ _ _)))
  show wpAny _ _ (Builtin.List.listSubscript? (.ref sl) >>= _) _ _ s
  refine wpAny_bind ?_
  unfold Builtin.List.listSubscript?
  refine wpAny_bind (wpAny_specialOf hTs slice_no_index ?_)
  simp only [Option.isNone_none, if_true]
  refine wpAny_pure ?_
  show wpAny _ _ (typeOf (.ref sl) >>= _) _ _ s
  refine wpAny_bind (wpAny_typeOf hTs ?_)
  first
    | rw [if_neg (by decide)]
    | refine PySem.W.KFB.if_not (by decide) ?_
  rw [listSliceParts_eq]
  refine wpAny_bind (wpAny_bind (wpAny_field hos hds (x := .none) rfl (wpAny_bind (wpAny_listPart .none ?_))))
  rw [if_neg hstep]
  refine wpAny_bind (wpAny_field hos hds (x := vl) rfl (wpAny_bind (wpAny_listPart pl ?_)))
  refine wpAny_bind (wpAny_field hos hds (x := vu) rfl (wpAny_bind (wpAny_listPart pu (wpAny_pure ?_))))
  first
    | simp only [hsame, Bool.false_eq_true, if_false]
    | refine PySem.W.KFB.if_not hsame ?_
    | (dsimp only
       rw [if_neg (by rw [hsame]; exact Bool.false_ne_true)])
  refine wpAny_bind (m := Builtin.List.listAllItems (.ref b) "must assign iterable to extended slice") ?_
  unfold Builtin.List.listAllItems
  refine wpAny_bind (wpAny_typeOf hb.typeIs ?_)
  first
    | refine PySem.W.KFB.if_so (by decide) ?_
    | rw [if_pos (by decide)]
    | simp only [beq_self_eq_true, Bool.true_or, if_true]
  unfold Builtin.List.listItems
  refine wpAny_bind (wpAny_seqItems e2 rfl (wpAny_pure ?_))
  refine wpAny_bind (wpAny_bind (wpAny_seqItems e rfl (wpAny_pure ?_)))
  refine wpAny_bind (wpAny_of_eq ((sliceIndices_raw (some (a : Int)) (some (c : Int)) none items.size (by simp)).trans (congrArg (pure : Int × Int × Int → Sem (Int × Int × Int)) (bounds_run hac hc))) ?_)
  show wpAny _ _ (if ((1 : Int) == 1) = true then _ else _) _ _ s
  rw [if_pos (by decide)]
  refine wpAny_bind (wpAny_rule ?_)
  first
    | simp only [notLongL hsz, Bool.false_eq_true, if_false]
    | refine PySem.W.KFB.if_not (notLongL hsz) ?_
  first | refine wpAny_bind (wpAny_pure ?_) | skip
  show wpAny _ _ (updateSeq l (fun xs => xs.extract 0 ((a : Int)).toNat ++ new ++ xs.extract (max (a : Int) (c : Int)).toNat xs.size) >>= _) _ _ s
  rw [hmax, Int.toNat_natCast]
  refine wpAny_bind (wpAny_updateSeq (hz := Nat.le_trans (Nat.le_add_right _ _) hsz) (_hz' := hz') e rfl ?_)
  refine wpAny_bind (wpAny_letGo ?_)
  first
    | exact wpAny_bind (wpAny_pure (wpAny_pure ⟨.none, rfl, wpAny_pure h⟩))
    | exact wpAny_pure ⟨.none, rfl, wpAny_pure h⟩
end

section
variable {X : Cx}
/-- xs[a:c] = ys of another list, at the value level: sl is the slice object that was just made -/
theorem set_slice {pins : List (Addr × Obj)} {s : Shared} {σ : St} {H : Hp} {l b sl : Addr} {xs ys : List V} {a c : Int} {vl vu : Value} {Q : Unit → Shared → Prop} (I : Inv X pins σ H s)
    (hH : H l = some (.lst xs)) (hB : H b = some (.lst ys)) (hne : l ≠ b) (hs : s.heap.IsSliceOf sl vl vu .none) (ra : RelV (.int a) vl) (rc : RelV (.int c) vu) (h0 : 0 ≤ a) (hac : a ≤ c) (hc : c ≤ xs.length)
    (hz : xs.length + ys.length ≤ sizeLine) (h : ∀ s', Inv X pins σ (upd H l (.lst (xs.take a.toNat ++ ys ++ xs.drop c.toNat))) s' → Q () s') :
    wpAny (model X.prog X.w) X.A (setItem (.ref l) (.ref sl) (.ref b)) Q X.xe s := by
  obtain ⟨ta, rfl⟩ := ra
  obtain ⟨tc, rfl⟩ := rc
  obtain ⟨z, its, n, r, hl, e⟩ := I.lstM hH
  obtain ⟨z2, its2, n2, r2, hl2, e2⟩ := I.lstM hB
  obtain ⟨a', rfl⟩ := Int.eq_ofNat_of_zero_le h0
  obtain ⟨c', rfl⟩ := Int.eq_ofNat_of_zero_le (Int.le_trans h0 hac)
  simp only [Int.toNat_natCast] at h
  refine setItem_slice (a := a') (c := c') e e2 hne hs (.int _ _) (.int _ _) (by omega) (by rw [List.size_toArray]; omega) (by rw [List.size_toArray, List.size_toArray]; omega) (h _ ?_)
  refine I.lset (its' := its.take a' ++ its2 ++ its.drop c') (t' := s.toks) hH e ?_ (Vals.append (Vals.append (r.take _) r2) (r.drop _)) ?_
  · exact splice_eq its its2 a' c'
  · rw [List.length_append, List.length_append, List.length_take, List.length_drop]
    omega
end
end L2

namespace Att
open PySem PySem.W PySem.Calls PyProof.Rows

/-! ### the script -/
theorem ints_of_wellAll {P : Params} {h : Heap} : ∀ (ns : List Int) (vs : List Value), WellAll P h vs (ns.map WData.int) → IntsAre vs ns := by
  intro ns
  induction ns with
  | nil =>
    intro vs w
    rw [List.map_nil] at w
    cases w
    exact .nil
  | cons n ns ih =>
    intro vs w
    rw [List.map_cons] at w
    cases w with
    | cons a b =>
      cases a
      exact .cons _ _ (ih _ b)

theorem script_of {l : OpenLaw} {n : Nat} (hn : l.most = some n) {P : Params} {h : Heap} {args : List WData} {vals : List Value}
    (hpre : l.row.toRowW.claim.pre args = true) (hwl : WellAll P h vals args) :
    ∃ a vs ns, vals = [Value.ref a] ∧ args = [WData.list (ns.map WData.int)] ∧ h.get? a = some { cls := .type "list", data := .seq vs.toArray } ∧ IntsAre vs ns ∧ ns.length ≤ n := by
  have hsh : WShape.hasAll [] args [.list .int] = true := (pre_splitW hpre).1
  have hc : l.pre.holds [] { args := args } = true := (pre_splitW hpre).2
  obtain ⟨d, r, rfl, h1, h2⟩ := hasAllW_cons hsh
  obtain rfl := hasAllW_nil h2
  obtain ⟨xs, rfl, h3⟩ := hasW_list h1
  obtain ⟨ns, rfl⟩ := items_int h3
  have hlen : ns.length ≤ n := by
    unfold OpenLaw.pre at hc
    have h4 : (WTm.not (.lt (.lit (.int (n : Int))) (.len (.arg 0)))).holds [] { args := [.list (ns.map .int)] } = true := by
      have h4 := (holds_andW hc).1
      rw [hn] at h4
      exact h4
    have h5 := condW_of h4 (w_not (w_lt w_lit (w_len_list (w_arg rfl))))
    rw [List.length_map] at h5
    refine Nat.le_of_not_lt fun q => ?_
    have q' : (n : Int) < ((ns.length : Nat) : Int) := by omega
    first
      | (rw [decide_eq_true q'] at h5; exact absurd h5 (by decide))
      | (simp at h5; omega)
  cases hwl with
  | cons w1 w2 =>
    cases w2
    cases w1 with
    | list ho hall => exact ⟨_, _, ns, rfl, rfl, ho, ints_of_wellAll ns _ hall, hlen⟩

theorem post_true (l : OpenLaw) (args : List WData) : l.row.toRowW.claim.post args (.bool true) args = true :=
  postW_of (r := l.row.toRowW) (X := (true == true))
    (show WShape.has [] (.bool true) .bool = true by first | rfl | decide | simp [WShape.has, WShape.arms, WShape.armsAll])
    (show (WTm.eq .res (.lit (.bool true))).value [] { args := args, res := some (.bool true), after := args } = some (.bool (true == true)) from w_eq_bool (w_res rfl) w_lit) rfl

/-! ### the attachment: holds_open's last premise (the goal 'hc' behind k_head) from a wpAny of the law's body -/
theorem attach {l : OpenLaw} {n : Nat} {q : Program} {loose : List Str} {XP : (Str → Option Value) → Heap → Prop} {YP : World → Heap → Prop} {d : DefRec} {x : Str}
    (hn : l.most = some n) (hdf : d.params.defaults = [])
    (hbind : ∀ pm cd doc v : Value, bindArgs (docDef d.name d.params d.body d.scope pm cd doc) ⟨[v], []⟩ = pure [(x, v)])
    (hx : d.scope.names.lookup x = some .local ∨ d.scope.names.lookup x = some .cell)
    (hk : d.scope.kind = .function) (hco : d.scope.isCoroutine = false) (hgen : d.scope.isGenerator = false)
    (body : ∀ (w : World) (s₀ s₁ s : Shared) (mg mb : Str → Option Value) (fa : Addr) (o : Obj) (pm cd doc : Value) (a : Addr) (vs : List Value) (ns : List Int),
      Ground q loose [] XP w s₀ mg mb s₁.heap → YP w s₁.heap →
      s₁.heap.get? fa = some o → o.data = .func (docDef d.name d.params d.body d.scope pm cd doc) → s₁.heap.CodeRec cd d.name → mg d.name = some (.ref fa) →
      s₁.heap.get? a = some { cls := .type "list", data := .seq vs.toArray } → IntsAre vs ns → ns.length ≤ n →
      s.gens = #[] → s.os = s₁.os →
      Fr s₁.heap s₁.heap.objs.size s.heap (bindL (envOfC d.name d.scope s₁.heap.objs.size fa cd).kindOf [(x, .ref a)] fun _ => none) →
      Cl s₁.heap.objs.size (cellsFrom (s₁.heap.objs.size + 1) d.scope.names []) s.heap (bindC (envOfC d.name d.scope s₁.heap.objs.size fa cd).kindOf [(x, .ref a)] fun _ => none) →
      wpAny (model l.prog w) (callerA.deeper (envOfC d.name d.scope s₁.heap.objs.size fa cd)) (execs d.body (envOfC d.name d.scope s₁.heap.objs.size fa cd))
        (fun f s' => f = .ret (.bool true) ∧ OldK s₁.heap s'.heap ∧ s'.os = s₁.os ∧ AllBare s'.gens) (fun _ _ => False) s) :
    WalkO q loose XP YP l.row.toRowW d [] (fun f vs => PySem.call f vs) := by
  intro w s₀ s₁ mg mb G Y fa o pm cd doc dV kV ho hd hcd hD hmg hg args vals as hpre hlay hrd hwl hlo
  obtain rfl : dV = .none := Dflts.none hD hdf
  obtain rfl : kV = .none := Dflts.noKw hD
  obtain ⟨a, vs, ns, rfl, rfl, hobj, hints, hlen⟩ := script_of hn hpre hwl
  refine enter_call ?_
  refine call_cells_ret (o := o) (by rw [depth_caller]; decide) ho (fd_plain hd) G.T.nolimit hcd (hbind pm cd doc (.ref a)) (fun y hy => ?_) (fun h₁ tk F X => ?_) hco hgen hk
  · obtain rfl : y = (x, Value.ref a) := List.mem_singleton.mp hy
    rcases hx with e | e
    · exact .inl e
    · exact .inr ⟨e, cellsFrom_some _ _ _ (.inl e)⟩
  · refine wpAny_mono (body w s₀ s₁ { s₁ with heap := h₁, toks := tk } mg mb fa o pm cd doc a vs ns G Y ho (fd_plain hd) hcd hmg hobj hints hlen hg rfl F X) (fun f s' hq => ?_) (fun _ _ hq => hq)
    obtain ⟨rfl, h2, h3, h4⟩ := hq
    exact ⟨.inl ⟨.bool true, .bool true, [], rfl, fun _ => rfl, .bool true, post_true l _, fun _ => ⟨List.Pairwise.nil, fun _ hm => (nomatch hm)⟩⟩, h2, h3, h4⟩

/-- the same from a codeAny of the CALL (for a layer whose function contracts speak of calls) -/
theorem attach_call {l : OpenLaw} {n : Nat} {q : Program} {loose : List Str} {XP : (Str → Option Value) → Heap → Prop} {YP : World → Heap → Prop} {d : DefRec}
    (hn : l.most = some n) (hdf : d.params.defaults = [])
    (call : ∀ (w : World) (s₀ s₁ : Shared) (mg mb : Str → Option Value) (fa : Addr) (o : Obj) (pm cd doc : Value) (a : Addr) (vs : List Value) (ns : List Int),
      Ground q loose [] XP w s₀ mg mb s₁.heap → YP w s₁.heap →
      s₁.heap.get? fa = some o → o.data = .func (docDef d.name d.params d.body d.scope pm cd doc) → s₁.heap.CodeRec cd d.name → mg d.name = some (.ref fa) →
      s₁.heap.get? a = some { cls := .type "list", data := .seq vs.toArray } → IntsAre vs ns → ns.length ≤ n → s₁.gens = #[] →
      codeAny (model l.prog w) callerA (.call (.ref fa) ⟨[.ref a], []⟩) (fun r s' => r = .ok (.ret (.bool true)) ∧ OldK s₁.heap s'.heap ∧ s'.os = s₁.os ∧ AllBare s'.gens) s₁) :
    WalkO q loose XP YP l.row.toRowW d [] (fun f vs => PySem.call f vs) := by
  intro w s₀ s₁ mg mb G Y fa o pm cd doc dV kV ho hd hcd hD hmg hg args vals as hpre hlay hrd hwl hlo
  obtain rfl : dV = .none := Dflts.none hD hdf
  obtain rfl : kV = .none := Dflts.noKw hD
  obtain ⟨a, vs, ns, rfl, rfl, hobj, hints, hlen⟩ := script_of hn hpre hwl
  refine enter_call (codeAny_mono (call w s₀ s₁ mg mb fa o pm cd doc a vs ns G Y ho (fd_plain hd) hcd hmg hobj hints hlen hg) fun r s' hq => ?_)
  obtain ⟨rfl, h2, h3, h4⟩ := hq
  exact ⟨.inl ⟨.bool true, .bool true, [], rfl, fun _ => rfl, .bool true, post_true l _, fun _ => ⟨List.Pairwise.nil, fun _ hm => (nomatch hm)⟩⟩, h2, h3, h4⟩

/-- the same where the top left finished generators (o_head chose holds_openN): nothing may have changed at all and no generator may be left -/
theorem attachN {l : OpenLaw} {n : Nat} {q : Program} {loose : List Str} {XP : (Str → Option Value) → Heap → Prop} {YP : World → Heap → Prop} {d : DefRec} {x : Str}
    (hn : l.most = some n) (hdf : d.params.defaults = [])
    (hbind : ∀ pm cd doc v : Value, bindArgs (docDef d.name d.params d.body d.scope pm cd doc) ⟨[v], []⟩ = pure [(x, v)])
    (hx : d.scope.names.lookup x = some .local ∨ d.scope.names.lookup x = some .cell)
    (hk : d.scope.kind = .function) (hco : d.scope.isCoroutine = false) (hgen : d.scope.isGenerator = false)
    (body : ∀ (w : World) (s₀ s₁ s : Shared) (mg mb : Str → Option Value) (fa : Addr) (o : Obj) (pm cd doc : Value) (a : Addr) (vs : List Value) (ns : List Int),
      Ground q loose [] XP w s₀ mg mb s₁.heap → YP w s₁.heap →
      s₁.heap.get? fa = some o → o.data = .func (docDef d.name d.params d.body d.scope pm cd doc) → s₁.heap.CodeRec cd d.name → mg d.name = some (.ref fa) →
      s₁.heap.get? a = some { cls := .type "list", data := .seq vs.toArray } → IntsAre vs ns → ns.length ≤ n →
      s.gens = #[] → s.os = s₁.os →
      Fr s₁.heap s₁.heap.objs.size s.heap (bindL (envOfC d.name d.scope s₁.heap.objs.size fa cd).kindOf [(x, .ref a)] fun _ => none) →
      Cl s₁.heap.objs.size (cellsFrom (s₁.heap.objs.size + 1) d.scope.names []) s.heap (bindC (envOfC d.name d.scope s₁.heap.objs.size fa cd).kindOf [(x, .ref a)] fun _ => none) →
      wpAny (model l.prog w) (callerA.deeper (envOfC d.name d.scope s₁.heap.objs.size fa cd)) (execs d.body (envOfC d.name d.scope s₁.heap.objs.size fa cd))
        (fun f s' => f = .ret (.bool true) ∧ (∀ b o, s₁.heap.get? b = some o → s'.heap.get? b = some o) ∧ s'.os = s₁.os ∧ s'.gens = #[]) (fun _ _ => False) s) :
    WalkN q loose XP YP l.row.toRowW d [] (fun f vs => PySem.call f vs) := by
  intro w s₀ s₁ mg mb G Y fa o pm cd doc dV kV ho hd hcd hD hmg hg args vals as hpre hlay hrd hwl hlo
  obtain rfl : dV = .none := Dflts.none hD hdf
  obtain rfl : kV = .none := Dflts.noKw hD
  obtain ⟨a, vs, ns, rfl, rfl, hobj, hints, hlen⟩ := script_of hn hpre hwl
  refine enter_callW ?_
  refine call_cells_ret (o := o) (by rw [depth_caller]; decide) ho (fd_plain hd) G.T.nolimit hcd (hbind pm cd doc (.ref a)) (fun y hy => ?_) (fun h₁ tk F X => ?_) hco hgen hk
  · obtain rfl : y = (x, Value.ref a) := List.mem_singleton.mp hy
    rcases hx with e | e
    · exact .inl e
    · exact .inr ⟨e, cellsFrom_some _ _ _ (.inl e)⟩
  · refine wpAny_mono (body w s₀ s₁ { s₁ with heap := h₁, toks := tk } mg mb fa o pm cd doc a vs ns G Y ho (fd_plain hd) hcd hmg hobj hints hlen hg rfl F X) (fun f s' hq => ?_) (fun _ _ hq => hq)
    obtain ⟨rfl, h2, h3, h4⟩ := hq
    exact ⟨.inl ⟨.bool true, .bool true, [], rfl, fun _ => rfl, .bool true, post_true l _, fun _ => ⟨List.Pairwise.nil, fun _ hm => (nomatch hm)⟩⟩, h2, h3, h4⟩

/-! ### rules over ANY heap (no ledger) from facts about the written part K: the library's own take a ledger (News) for what they write -/
section
variable {prog : Program} {w : World} {A : Around} {E : Value → Shared → Prop} {s : Shared} {K : Frag}

/-- a def of the module, or a method (qual 'C.m'), entered: the frame is the next address; cells behind it -/
theorem call_fn {R : Result → Shared → Prop} {name qual : Str} {params : Arguments} {body : List Stmt} {scope : Scope} {dV kV doc pm cdv ct oc : Value} {an od : Option Addr} {osl : Array (Option Value)} {f : Addr} {args : Args} {binds : List (Str × Value)}
    (X : K.In s.heap) (hlim : s.heap.NoLimit) (ho : K.lookup f = some ⟨oc, od, .func (fnOf name qual params body scope dV kV doc pm an cdv ct), osl⟩) (hcd : codeIn K cdv qual = true) (hroom : A.depth < recursionLimit)
    (hbind : BindsTo s (fnOf name qual params body scope dV kV doc pm an cdv ct) args binds)
    (hkind : (binds.all fun y => scope.names.lookup y.1 == some .local || scope.names.lookup y.1 == some .cell) = true)
    (h : ∀ s₁, InCallC s s.heap.objs.size (bindL (envOfC qual scope s.heap.objs.size f cdv).kindOf binds fun _ => none) (cellsFrom (s.heap.objs.size + 1) scope.names [])
        (bindC (envOfC qual scope s.heap.objs.size f cdv).kindOf binds fun _ => none) s₁ →
      wpAny (model prog w) (A.deeper (envOfC qual scope s.heap.objs.size f cdv)) (execs body (envOfC qual scope s.heap.objs.size f cdv))
        (fun fl s' => R (.ok (.ret (match fl with | .ret v => v | _ => .none))) s')
        (fun e s' => wpAny (model prog w) (A.deeper (envOfC qual scope s.heap.objs.size f cdv)) (leaving (envOfC qual scope s.heap.objs.size f cdv) e) (fun _ s'' => R (.error e) s'') (fun e' s'' => R (.error e') s'') s') s₁)
    (hco : scope.isCoroutine = false) (hgen : scope.isGenerator = false) (hk : scope.kind = .function) : codeAny (model prog w) A (.call (.ref f) args) R s := by
  refine codeAny_call_function hroom (X _ _ ho) rfl hco hgen rfl (codeRec_of X hcd) (hbind _ _ _ _ ?_)
  refine wpAny_newFunctionEnv_cells hk (kindsX hkind _) fun env he s₁ x => ?_
  subst he
  exact ⟨hlim.keeps x.toInCall.keep, codeAny_func (h s₁ x)⟩

/-- C(..): dict at size, instance at size + 1, then __init__ -/
theorem make_obj {R : Result → Shared → Prop} {C fI : Addr} {rest : List Value} {kw : List (Str × Value)}
    (X : K.In s.heap) (hm : makesIn K C = true) (hi : findIn K (.ref C) "__init__" = some (some (.ref fI))) (hf : isFn K (.ref fI) = true)
    (h : codeAny (model prog w) (A.under (.builtin "type.__call__" ⟨.ref C :: rest, kw⟩)) (.call (.ref fI) ⟨.ref (s.heap.objs.size + 1) :: rest, kw⟩) (InitBack (s.heap.objs.size + 1) R)
      { s with heap := (s.heap.push emptyDict).push (instObj C s.heap.objs.size) }) : codeAny (model prog w) A (.call (.ref C) ⟨rest, kw⟩) R s := by
  obtain ⟨hh, g, d, t, os⟩ := s
  exact make_core (makes_of X hm) (looks_findIn X hi) (fun self => bind_fn X self (beq_iff_eq.mp hf)) (.inl rfl) h

/-- x.name where the instance's dict holds the name and the class does not -/
theorem get_field {x C : Addr} {ox : Obj} {es : List DictEntry} {n : Nat} {name : Str} {expr : Bool} {v : Value} {Q : Value → Shared → Prop}
    (X : K.In s.heap) (I : PySem.W.InstAt s.heap x ox C (some (dictOf es n))) (hg : plainGet K C name = true) (hh : hasDictIn K C = true) (ha : findIn K (.ref C) name = some none)
    (hl : getL name es = some (some v)) (hv : handedIn v = true) (h : Q v { s with toks := s.toks + 1 }) : wpAny (model prog w) A (getAttr (.ref x) name expr) Q E s :=
  get_value X I (plainGet_of hg).1 (findObj_own hh ha rfl hl) hv h

/-- x.m(..): the method found in the class -/
theorem get_method {x C f : Addr} {ox : Obj} {es : List DictEntry} {n : Nat} {name : Str} {pl : Sem Bool} {Q : Value × List Value → Shared → Prop}
    (X : K.In s.heap) (I : PySem.W.InstAt s.heap x ox C (some (dictOf es n))) (hg : plainGet K C name = true) (hf : findIn K (.ref C) name = some (some (.ref f))) (ht : isFn K (.ref f) = true)
    (hl : getL name es = some none) (h : Q (.ref f, [.ref x]) s) : wpAny (model prog w) A (getMethod (.ref x) name pl) Q E s :=
  method_fn X I (plainGet_of hg).1 (plainGet_of hg).2 hf (beq_iff_eq.mp ht) (by show (lookIn name (dictOf es n)).map _ = _; rw [lookIn_dict, hl]; rfl) h

/-! the whole heap as the ledger: makes every rule that writes through a ledger a rule over any heap -/
def noObjs (h : Heap) : Heap := { h with objs := #[] }
theorem noObjs_get (h : Heap) (b : Addr) : (noObjs h).get? b = none := by
  cases e : (noObjs h).get? b with
  | none => rfl
  | some o => exact absurd (Heap.lt_size e) (Nat.not_lt_zero _)
def ledger (h : Heap) (L d : Addr) : List (Addr × Obj) := (List.range h.objs.size).filterMap fun a => if a = L ∨ a = d then none else (h.get? a).map fun o => (a, o)
theorem mem_ledger {h : Heap} {L d a : Addr} {o : Obj} : (a, o) ∈ ledger h L d ↔ a ≠ L ∧ a ≠ d ∧ h.get? a = some o := by
  unfold ledger
  rw [List.mem_filterMap]
  constructor
  · rintro ⟨b, _, e⟩
    split at e
    · cases e
    · rename_i hb
      obtain ⟨o', ho, e'⟩ := Option.map_eq_some_iff.mp e
      cases e'
      exact ⟨fun q => hb (.inl q), fun q => hb (.inr q), ho⟩
  · rintro ⟨n1, n2, ho⟩
    refine ⟨a, List.mem_range.mpr (Heap.lt_size ho), ?_⟩
    rw [if_neg (show ¬ (a = L ∨ a = d) from fun q => q.elim n1 n2), ho] <;> rfl
theorem news_ledger {h : Heap} {L d : Addr} {od : Obj} (hne : d ≠ L) (ho : h.get? d = some od) : News (noObjs h) L h ([] ++ (d, od) :: ledger h L d) := by
  rintro ⟨a, o⟩ hp
  rcases List.mem_cons.mp hp with e | hp
  · cases e
    exact ⟨ho, hne, noObjs_get _ _⟩
  · obtain ⟨n1, n2, e⟩ := mem_ledger.mp hp
    exact ⟨e, n1, noObjs_get _ _⟩
theorem fr_all {h : Heap} {L : Addr} {m : Str → Option Value} (n : h.Ns L m) : Fr (noObjs h) L h m :=
  ⟨n, fun b o e => (by rw [noObjs_get] at e; cases e), Nat.zero_le _⟩
/-- Upd of the head entry (for append_K, setItem_K ..) -/
theorem upd_ledger {h : Heap} {L d : Addr} {o o' : Obj} : Upd d o o' ((d, o) :: ledger h L d) ((d, o') :: ledger h L d) :=
  .head fun ⟨_, _⟩ hp => (mem_ledger.mp hp).2.1

/-- x.name = v over any heap: L is any namespace of the heap (the frame's, say): its map stays, its object is not told; all else but the dict stays -/
theorem set_field {x C dx L : Addr} {ox : Obj} {m : Str → Option Value} {es es' : List DictEntry} {n n' : Nat} {name : Str} {v : Value} {Q : Unit → Shared → Prop}
    (X : K.In s.heap) (I : PySem.W.InstAt s.heap x ox C (some (dictOf es n))) (hd : ox.dict = some dx) (hL : s.heap.Ns L m) (hne : dx ≠ L)
    (hs : findIn K (.ref C) "__setattr__" = some (some (.builtin "object.__setattr__"))) (hp : plainOver K C = true) (ht : takerIn K C name = some none) (hh : hasDictIn K C = true) (hl : (getL name es).isSome = true)
    (e : (putL name (PyData.keyHash w.params name) (.str name (s.toks + 1)) v es, putN name es n) = (es', n')) (hz : es'.length ≤ 1000)
    (h : ∀ h' : Heap, h'.Ns L m → h'.get? dx = some (dictOf es' n') → (∀ b o, b ≠ dx → b ≠ L → s.heap.get? b = some o → h'.get? b = some o) → Q () { s with heap := h', toks := s.toks + 2 }) :
    wpAny (model prog w) A (setAttr (.ref x) name v) Q E s := by
  obtain ⟨e1, e2⟩ := Prod.mk.inj e
  have hdx : s.heap.get? dx = some (dictOf es n) := by
    have := I.dict
    rw [hd] at this
    exact this
  refine set_plain X I hs (osa_dict (s := { s with toks := s.toks + 1 }) (h₀ := noObjs s.heap) (L := L) (m := m) (od := dictOf es n) (od' := dictOf es' n') (es := es') (n := n') (pre := []) (post := ledger s.heap L dx)
    (fr_all hL) (news_ledger hne hdx) X I hd hp ht hh hl (fun _ q => nomatch q) (fun ⟨_, _⟩ q => (mem_ledger.mp q).2.1) (by rw [putName_dict, e1, e2]) rfl hz fun h' F' N' => ?_)
  exact h h' F'.ns (N'.get (List.Mem.head _)) fun b o n1 n2 ho => N'.get (List.Mem.tail _ (mem_ledger.mpr ⟨n2, n1, ho⟩))
end
end Att

namespace L2
open PySem PySem.Spec PyProof.Rows

theorem vals_ints : ∀ {vs : List Value} {ns : List Int}, IntsAre vs ns → Vals (ns.map V.int) vs
  | _, _, .nil => .nil
  | _, _, .cons n t h => .cons ⟨t, rfl⟩ (vals_ints h)

/-- nothing is tracked but the script, known to the object (or it is an object of the module) -/
def Only (H : Hp) : Prop := ∀ b, H b = none ∨ ∃ o xs, H b = some (.frz o (.lst xs))

/-- THE HEAD: the law's promise, at the heap behind the top. F, the promise of the law's def, may use that base is part of the heap (so K.In base, base.Ns mainGlobals mg stand in Mod) -/
theorem law_call {P : Program} {w : World} {K : PySem.W.Frag} {mg mb : Str → Option Value} {CX : CXT} {k : Nat} {fa a : Addr} {fd : FuncData} {x : Str} {sp : Sp} {s₁ : Shared} {vs : List Value} {ns : List Int}
    (KX : K.In s₁.heap) (hns : s₁.heap.Ns mainGlobals mg) (hb : s₁.heap.Ns builtinsNs mb) (hbb : ∀ x : Str, x ≠ "__name__" → mb x = bootBuiltins x) (hlim : s₁.heap.NoLimit) (hg : s₁.gens = #[])
    (ha : s₁.heap.get? a = some { cls := .type "list", data := .seq vs.toArray }) (hi : IntsAre vs ns) (hl : ns.length ≤ sizeLine) (hr : Room k callerA)
    (F : ∀ base : Heap, K.In base → base.Ns mainGlobals mg → FnOk P w K mg base CX k fa fd [x] sp) (hbind : ∀ (s : Shared) (u : Value), BindsTo s fd ⟨[u], []⟩ [(x, u)])
    (hsp : ∀ H : Hp, Only H → SqL K H a (ns.map V.int) → sp [.ref a] H (fun v _ => v = .bl true) fun _ _ _ => False)
    (hCX : ∀ H e s', CX [] H s₁ (fun _ _ _ => False) e s' → False) :
    codeAny (model P w) callerA (.call (.ref fa) ⟨[.ref a], []⟩) (fun r s' => r = .ok (.ret (.bool true)) ∧ OldK s₁.heap s'.heap ∧ s'.os = s₁.os ∧ AllBare s'.gens) s₁ := by
  have rv := vals_ints hi
  have lenV := hi.length
  -- from an abstract heap in which nothing but the script may be tracked
  have core : ∀ H : Hp, Only H → SqL K H a (ns.map V.int) → HOk P w H s₁.heap → (∀ b, H b ≠ none → b = a) → (H a ≠ none → K.lookup a = none) →
      codeAny (model P w) callerA (.call (.ref fa) ⟨[.ref a], []⟩) (fun r s' => r = .ok (.ret (.bool true)) ∧ OldK s₁.heap s'.heap ∧ s'.os = s₁.os ∧ AllBare s'.gens) s₁ := by
    intro H hO hS hok hA hK
    have base_of : ∀ {b : Addr} {o : Obj}, s₁.heap.get? b = some o → H b = none → (hidT s₁.heap H).get? b = some o := fun e n => hidT_get e n
    have noA : ∀ {b : Addr} {o : Obj} {es : Array DictEntry} {ep : Nat}, s₁.heap.get? b = some o → o.data = .dict es ep → H b = none := fun {b o es ep} e d => by
      cases q : H b with
      | none => rfl
      | some u =>
        have e' : b = a := hA b (by rw [q]; simp)
        subst e'
        rw [ha] at e; cases e
        have d' : Data.seq vs.toArray _ = Data.dict es ep := d
        cases d'
    have nsK : ∀ {b : Addr} {m : Str → Option Value}, s₁.heap.Ns b m → (hidT s₁.heap H).Ns b m := fun {b m} ⟨o, es, ep, e, d, r⟩ => ⟨o, es, ep, base_of e (noA e d), d, r⟩
    have hKb : K.In (hidT s₁.heap H) := fun b o e => base_of (KX b o e) (by
      cases q : H b with
      | none => rfl
      | some u =>
        have e' : b = a := hA b (by rw [q]; simp)
        subst e'
        rw [hK (by rw [q]; simp)] at e; cases e)
    have hM : Mod K mg (hidT s₁.heap H) := ⟨hKb, nsK hns, ⟨mb, nsK hb, hbb⟩, let ⟨mc, h1, h2⟩ := hlim; ⟨mc, nsK h1, h2⟩⟩
    have e0 : Env0 P w K mg (hidT s₁.heap H) callerA [] s₁ H := ⟨rfl, hM, fun b o e => of_hidT e, Nat.le_of_eq (hidT_size _ _), trivial, fun b hb => absurd (show b ∈ ([] : List Addr) from hb) (by simp), hok, .of_eq hg⟩
    refine codeAny_mono ((F _ hKb (nsK hns)).run callerA [] s₁ H ⟨[.ref a], []⟩ [.ref a] [.ref a] _ _ hr e0 (hbind s₁ (.ref a)) (.cons rfl .nil) (hsp H hO hS)) fun r s' h => ?_
    cases r with
    | error e => exact (hCX H e s' h).elim
    | ok fl =>
      cases fl with
      | next => exact False.elim h
      | brk => exact False.elim h
      | cont => exact False.elim h
      | ret u =>
        obtain ⟨v, H', os, bare, un, hok', r', q⟩ := h
        have q' : v = .bl true := q
        subst q'
        obtain rfl : u = Value.bool true := r'
        refine ⟨rfl, OldK.of_keep fun b o e => ?_, os, bare⟩
        cases q : H b with
        | none => exact un.keep b o e q (by intro z; exact absurd (show b ∈ ([] : List Addr) from z) (by simp)) (by simp)
        | some u =>
          rcases hO b with z | ⟨ob, xs, z⟩
          · rw [q] at z; cases z
          · have z2 := un.frzs b ob _ z
            obtain ⟨e1, _⟩ := hok b _ z
            obtain ⟨e2, _⟩ := hok' b _ z2
            rw [e] at e1; cases e1
            exact e2
  cases hk : K.lookup a with
  | some o =>
    -- the script is one of the module's own objects
    have e := KX a o hk
    rw [ha] at e
    cases e
    refine core (fun _ => none) (fun _ => .inl rfl) (.inr ⟨_, vs.toArray, _, hk, rfl, rfl, rfl, by rw [List.size_toArray, lenV]; exact hl, by simpa using rv⟩) (fun b u z => by have z' : (none : Option HO) = some u := z; cases z') (fun b z => absurd rfl z) fun z => absurd rfl z
  | none =>
    refine core (fun b => if b = a then some (.frz { cls := .type "list", data := .seq vs.toArray } (.lst (ns.map V.int))) else none) (fun b => ?_) (.inl (.inr ⟨{ cls := .type "list", data := .seq vs.toArray }, if_pos rfl⟩)) (fun b u z => ?_) (fun b z => ?_) fun _ => hk
    · by_cases hb : b = a
      · exact .inr ⟨_, _, if_pos hb⟩
      · exact .inl (if_neg hb)
    · by_cases hb : b = a
      · have z' := (if_pos hb).symm.trans z
        cases z'
        subst hb
        exact ⟨ha, by rw [List.length_map]; exact hl, vs, _, rv, ha⟩
      · have z' := (if_neg hb).symm.trans z
        cases z'
    · by_cases hb : b = a
      · exact hb
      · exact absurd (if_neg hb) z
end L2

namespace L2
open PySem PySem.Spec PyProof.Rows

abbrev KOf {K : PySem.W.Frag} {h : Heap} (_ : K.In h) : PySem.W.Frag := K

/-- the goal that k_head leaves (case hc), from the law's promise. F gives the function object fd (K's own) once, then the promise over every base -/
theorem walk_of {l : PySem.W.OpenLaw} {n k : Nat} {q : Program} {loose : List Str} {XP : (Str → Option Value) → Heap → Prop} {YP : World → Heap → Prop} {d : DefRec} {K : Params → PySem.W.Frag} {CX : World → CXT} {sp : World → Sp} {x : Str}
    (hn : l.most = some n) (hn2 : n ≤ sizeLine) (hdf : d.params.defaults = []) (hr : Room k callerA)
    (hY : ∀ (w : World) (h : Heap), YP w h → (K w.params).In h)
    (F : ∀ (w : World) (mg : Str → Option Value) (fa : Addr) (h : Heap), (K w.params).In h → h.Ns mainGlobals mg → mg d.name = some (.ref fa) →
      ∃ fd : FuncData, (∀ (s : Shared) (u : Value), BindsTo s fd ⟨[u], []⟩ [(x, u)]) ∧
        ∀ base : Heap, (K w.params).In base → base.Ns mainGlobals mg → FnOk l.prog w (K w.params) mg base (CX w) k fa fd [x] (sp w))
    (hsp : ∀ (w : World) (H : Hp) (a : Addr) (ns : List Int), ns.length ≤ n → Only H → SqL (K w.params) H a (ns.map V.int) → sp w [.ref a] H (fun v _ => v = .bl true) fun _ _ _ => False)
    (hCX : ∀ (w : World) (H : Hp) (s : Shared) (e : Value) (s' : Shared), CX w [] H s (fun _ _ _ => False) e s' → False) :
    PySem.W.WalkO q loose XP YP l.row.toRowW d [] (fun f vs => PySem.call f vs) := by
  refine Att.attach_call hn hdf fun w s₀ s₁ mg mb fa o pm cd doc a vs ns G Y ho hd hcd hmg hobj hints hlen hg => ?_
  have KX := hY w _ Y
  obtain ⟨fd, hb, hF⟩ := F w mg fa _ KX G.T.g hmg
  exact law_call KX G.T.g G.T.b G.T.builtins G.T.nolimit hg hobj hints (Nat.le_trans hlen hn2) hr hF hb (fun H hO hS => hsp w H a ns hlen hO hS) fun H e s' => hCX w H s₁ e s'
/-- the same where the promise hangs on the written part alone: (sp := My.sp_law), no hole under a binder -/
theorem walk_ofK {l : PySem.W.OpenLaw} {n k : Nat} {q : Program} {loose : List Str} {XP : (Str → Option Value) → Heap → Prop} {YP : World → Heap → Prop} {d : DefRec} {K : Params → PySem.W.Frag} {CX : CXT} {sp : PySem.W.Frag → Sp} {x : Str}
    (hn : l.most = some n) (hn2 : n ≤ sizeLine) (hdf : d.params.defaults = []) (hr : Room k callerA)
    (hY : ∀ (w : World) (h : Heap), YP w h → (K w.params).In h)
    (F : ∀ (w : World) (mg : Str → Option Value) (fa : Addr) (h : Heap), (K w.params).In h → h.Ns mainGlobals mg → mg d.name = some (.ref fa) →
      ∃ fd : FuncData, (∀ (s : Shared) (u : Value), BindsTo s fd ⟨[u], []⟩ [(x, u)]) ∧
        ∀ base : Heap, (K w.params).In base → base.Ns mainGlobals mg → FnOk l.prog w (K w.params) mg base CX k fa fd [x] (sp (K w.params)))
    (hsp : ∀ (K : PySem.W.Frag) (H : Hp) (a : Addr) (ns : List Int), ns.length ≤ n → Only H → SqL K H a (ns.map V.int) → sp K [.ref a] H (fun v _ => v = .bl true) fun _ _ _ => False)
    (hCX : ∀ (H : Hp) (s : Shared) (e : Value) (s' : Shared), CX [] H s (fun _ _ _ => False) e s' → False) :
    PySem.W.WalkO q loose XP YP l.row.toRowW d [] (fun f vs => PySem.call f vs) :=
  walk_of (K := K) (CX := fun _ => CX) (sp := fun w => sp (K w.params)) hn hn2 hdf hr hY F (fun w H a ns h1 h2 h3 => hsp (K w.params) H a ns h1 h2 h3) fun _ H s e s' => hCX H s e s'
end L2

/- THE LAST THEOREM (shape; LID, My.* are yours):
   My.Adr: a structure of the addresses that your layer names (classes, functions); My.Txt K t: a structure (Prop) of the equations over K;
   My.txt_mk : {K} {implicit addresses ..} (e1 : nsIn K mainGlobals "law" = some (some (.ref f))) (e2 : K.lookup f = some ⟨oc, od, .func (fnOf "law" "law" params body scope dV kV doc pm an cdv ct), sl⟩) (e3 : codeIn K cdv "law" = true) .. : ∃ t, My.Txt K t

set_option maxRecDepth 100000 in
set_option maxHeartbeats 0 in
theorem PySem.Challenge.cw_LID_holds : PySem.Challenge.rw_LID.Holds := by
  w_on; o_law; k_head; (case hw => w_witness2)
  k_fill
  refine L2.walk_of (l := PySem.Challenge.rw_LID) (n := 63) (k := 40) (x := "script") (CX := fun w => ..) (sp := fun _ => My.sp_law) rfl (by decide) rfl ⟨rfl, by decide, by decide⟩ (fun w h Y => PySem.W.kIn_of Y) ?F ?S ?C
  case F =>
    intro w mg fa h KX G hmg
    have T : ∃ t, My.Txt (L2.KOf KX) t := by
      dsimp only [L2.KOf]                          -- K must stand as «<heap const> w.params» for k_is
      refine' My.txt_mk ?e1 ?e2 ?e3 ..
      (case e1 => PySem.W.k_is)                    -- in the order: a name -> its address -> its object -> its parts
      (case e2 => PySem.W.k_is)
      ..
    obtain ⟨t, T⟩ := T
    have e0 := hmg.symm.trans (PySem.W.mg_of KX G T.law)
    cases e0                                       -- fa is the law's own address
    exact ⟨_, fun s u => .of_eq rfl, fun base kb nb => My.law_fn T kb nb⟩     -- if «.of_eq rfl» comes too early: refine' ⟨_, ?b, fun base kb nb => My.law_fn T kb nb⟩; exact fun s u => .of_eq rfl
  case S => exact fun w H a ns hl hO hS => ..
  case C => exact ..
(the tactic k_is has no namespace: write k_is) -/

/-! SHORT WORDS over the layer: a def of the text, its body, what a loop and a test want. -/
namespace L2
open PySem PySem.Spec PyProof.Rows

/-! ### the text by places -/
/-- the j-th statement of a class's body -/
def inClass (s : Stmt) (j : Nat) : Stmt := match s with
  | .ClassDef _ _ _ body _ _ _ _ _ _ _ => body.getD j (.Pass ⟨0, 0, 0, 0⟩)
  | _ => .Pass ⟨0, 0, 0, 0⟩
def defArgs (s : Stmt) : Arguments := match s with
  | .FunctionDef _ a _ _ _ _ _ _ _ _ => a
  | _ => { posonlyargs := [], args := [], vararg := none, kwonlyargs := [], kw_defaults := [], kwarg := none, defaults := [] }
def defBody (s : Stmt) : List Stmt := match s with
  | .FunctionDef _ _ b _ _ _ _ _ _ _ => b
  | _ => []
def defScope (s : Stmt) : Scope := match s with
  | .FunctionDef _ _ _ _ _ _ sc _ _ _ => sc
  | _ => { kind := .function, names := [], isGenerator := false, isCoroutine := false }

/-! ### no exception leaves a def -/
abbrev CX0 : CXT := fun _ _ _ _ _ _ => False
abbrev E0 : XK := fun _ _ _ => False
theorem pass0 {X : Cx} : Passes CX0 X E0 := fun _ _ _ _ _ _ _ h => h.elim

/-! ### a def (or method) of the text as it stands behind the top -/
structure Fun (K : PySem.W.Frag) (x qual : Str) (st : Stmt) (f : Addr) (fd : FuncData) : Prop where
  ex : ∃ (oc : Value) (od : Option Addr) (kV doc pm : Value) (an : Option Addr) (cdv ct : Value) (osl : Array (Option Value)),
    fd = PySem.W.fnOf x qual (defArgs st) (defBody st) (defScope st) .none kV doc pm an cdv ct ∧ K.lookup f = some ⟨oc, od, .func fd, osl⟩ ∧ PySem.W.codeIn K cdv qual = true
  kp : PySem.W.keepIn K (.ref f) = true
section
variable {P : Program} {w : World} {K : PySem.W.Frag} {mg : Str → Option Value} {base : Heap}
/-- THE RULE for a def: its body as a term of rules, and the reading of that term -/
theorem Fun.ok {x qual : Str} {st : Stmt} {f : Addr} {fd : FuncData} {N ps : List Str} {k : Nat} {sp : Sp} (F : Fun K x qual st f fd) (S : FnScope N ps (defScope st)) (len : ∀ vs H Q E, sp vs H Q E → vs.length = ps.length)
    (hbody : ∀ (cdv : Value) (A : Around) (outer : List Env) (s : Shared) (H : Hp) (vs : List V) (Q : VK) (E : XK), Room k (A.deeper (envOfC qual (defScope st) s.heap.objs.size f cdv)) → sp vs H Q E →
      ∃ t, PSs (cxOf CX0 P w K mg base N qual (defScope st) f cdv A outer s H E).nox (defBody st) t ∧ t { nx := fun _ H' => Q .non H', rt := Q } (start N vs) H) : FnOk P w K mg base CX0 (k + 1) f fd ps sp := by
  obtain ⟨oc, od, kV, doc, pm, an, cdv, ct, osl, rfl, lk, hcd⟩ := F.ex
  refine fn_of lk hcd S len fun A outer s H vs Q E hr hsp => ?_
  obtain ⟨t, h, q⟩ := hbody cdv A outer s H vs Q E hr hsp
  exact ⟨t, h.nox, q⟩
/-- how its arguments bind (no defaults): h is «fun _ _ _ _ _ _ us hl => match us, hl with | [_, _], _ => rfl», one _ a parameter -/
theorem Fun.binds {x qual : Str} {st : Stmt} {f : Addr} {fd : FuncData} {ps : List Str} (F : Fun K x qual st f fd)
    (h : ∀ (kV doc pm : Value) (an : Option Addr) (cdv ct : Value) (us : List Value), us.length = ps.length → bindArgs (PySem.W.fnOf x qual (defArgs st) (defBody st) (defScope st) .none kV doc pm an cdv ct) ⟨us, []⟩ = pure (ps.zip us)) : Binds K fd ps [] := by
  obtain ⟨oc, od, kV, doc, pm, an, cdv, ct, osl, rfl, lk, hcd⟩ := F.ex
  exact .all (h kV doc pm an cdv ct)
theorem fun_mk {x qual : Str} {st : Stmt} {f : Addr} {oc : Value} {od an : Option Addr} {osl : Array (Option Value)} {kV doc pm cdv ct : Value} (l : K.lookup f = some ⟨oc, od, .func (PySem.W.fnOf x qual (defArgs st) (defBody st) (defScope st) .none kV doc pm an cdv ct), osl⟩)
    (c : PySem.W.codeIn K cdv qual = true) (k : PySem.W.keepIn K (.ref f) = true) : Fun K x qual st f (PySem.W.fnOf x qual (defArgs st) (defBody st) (defScope st) .none kV doc pm an cdv ct) := ⟨⟨oc, od, kV, doc, pm, an, cdv, ct, osl, rfl, l, c⟩, k⟩
end
theorem hu_of {A : Around} {k : Nat} (hr : Room k A) : A.units + 1 < cLine := Nat.lt_of_le_of_lt (Nat.add_le_add_left (by decide : 1 ≤ 64) _) hr.units
theorem small1000 {n : Nat} (h : n ≤ 1000) : n < sizeLine := Nat.lt_of_le_of_lt h (by decide)

/-! ### expressions in short: the name that stands in the i-th slot -/
section
variable {X : Cx}
theorem pv (i : Nat) {x : Str} {pos : Pos} (hN : X.N[i]? = some x := by rfl) (hv : Vis X.env.scope x := by first | exact Or.inl rfl | exact Or.inr (Or.inl rfl) | exact Or.inr (Or.inr rfl)) (hd : (x == ("__debug__" : Str)) = false := by decide)
    (hcd : (x == ("__classdict__" : Str)) = false := by decide) : PE X (.Name x pos) (tVar i) := pe_var hN hv hd hcd
end

/-! ### tests -/
theorem iteF {A B : Prop} (h : B) : if false = true then A else B := by
  rw [if_neg Bool.false_ne_true]
  exact h
theorem iteT {A B : Prop} (h : A) : if true = true then A else B := by
  rw [if_pos rfl]
  exact h
theorem ite2 {c A B : Prop} [Decidable c] (h1 : c → A) (h2 : ¬ c → B) : if c then A else B := by
  by_cases h : c
  · rw [if_pos h]
    exact h1 h
  · rw [if_neg h]
    exact h2 h
theorem iteNS {c A B : Prop} [Decidable c] (hc : c) (h : B) : if (!decide c) = true then A else B := by
  rw [decide_eq_true hc]
  exact iteF h

/-! ### heaps -/
/-- all that was tracked is as it was -/
def Same (H H' : Hp) : Prop := ∀ b o, H b = some o → H' b = some o
theorem Same.refl (H : Hp) : Same H H := fun _ _ h => h
theorem Same.trans {H H1 H2 : Hp} (a : Same H H1) (b : Same H1 H2) : Same H H2 := fun c o h => b c o (a c o h)
theorem Same.free {H H' : Hp} (e : Same H H') {l : Addr} (h : H' l = Option.none) : H l = Option.none := by
  cases q : H l with
  | none => rfl
  | some o =>
    rw [e l o q] at h
    cases h
theorem Same.seq {K : PySem.W.Frag} {H H' : Hp} {a : Addr} {xs : List V} (e : Same H H') (h : SqL K H a xs) : SqL K H' a xs := by
  rcases h with (h | ⟨o, h⟩) | h
  · exact .inl (.inl (e _ _ h))
  · exact .inl (.inr ⟨o, e _ _ h⟩)
  · exact .inr h

end L2

set_option Elab.async false
set_option linter.all false
set_option maxRecDepth 100000
namespace L2
open PySem PySem.Spec PyProof.Rows

/-! ### lists of pairs as tables -/
section
variable {κ : Type} [DecidableEq κ]
def valV (kvs : List (κ × V)) (k : κ) : Option V := (kvs.find? fun kv => decide (kv.1 = k)).map (·.2)
/-- in its place, or at the end -/
def putK (kvs : List (κ × V)) (k : κ) (v : V) : List (κ × V) :=
  if (kvs.any fun kv => decide (kv.1 = k)) = true then kvs.map (fun kv => if kv.1 = k then (kv.1, v) else kv) else kvs ++ [(k, v)]
def dropK (kvs : List (κ × V)) (k : κ) : List (κ × V) := kvs.filter fun kv => decide (kv.1 ≠ k)

theorem valV_nil {k : κ} : valV ([] : List (κ × V)) k = none := rfl
theorem valV_pos {p : κ × V} {r : List (κ × V)} {k : κ} (e : p.1 = k) : valV (p :: r) k = some p.2 := by simp [valV, List.find?_cons, e]
theorem valV_neg {p : κ × V} {r : List (κ × V)} {k : κ} (e : ¬ p.1 = k) : valV (p :: r) k = valV r k := by simp [valV, List.find?_cons, e]
theorem valV_any (k : κ) : ∀ kvs : List (κ × V), (kvs.any fun kv => decide (kv.1 = k)) = (valV kvs k).isSome
  | [] => rfl
  | p :: r => by
    rw [List.any_cons]
    by_cases e : p.1 = k
    · simp only [valV_pos e, decide_eq_true e, Bool.true_or, Option.isSome_some]
    · rw [valV_neg e, decide_eq_false e, Bool.false_or]; exact valV_any k r
theorem valV_map (k j : κ) (y : V) : ∀ kvs : List (κ × V), valV (kvs.map fun kv => if kv.1 = k then (kv.1, y) else kv) j = (valV kvs j).map fun x => if j = k then y else x
  | [] => rfl
  | p :: r => by
    have ih := valV_map k j y r
    rw [List.map_cons]
    by_cases h : p.1 = k
    · rw [if_pos h]
      by_cases e : p.1 = j
      · rw [valV_pos (p := (p.1, y)) e, valV_pos e, Option.map_some, if_pos (e.symm.trans h)]
      · rw [valV_neg (p := (p.1, y)) e, valV_neg e, ih]
    · rw [if_neg h]
      by_cases e : p.1 = j
      · rw [valV_pos (p := p) e, valV_pos e, Option.map_some, if_neg (fun z => h (e.trans z))]
      · rw [valV_neg (p := p) e, valV_neg e, ih]
theorem valV_snoc (k j : κ) (y : V) : ∀ kvs : List (κ × V), valV kvs k = none → valV (kvs ++ [(k, y)]) j = if j = k then some y else valV kvs j
  | [], _ => by
    by_cases e : k = j
    · rw [if_pos e.symm]; exact valV_pos (p := (k, y)) e
    · rw [if_neg (fun z => e z.symm)]; exact valV_neg (p := (k, y)) e
  | p :: r, hn => by
    rw [List.cons_append]
    have hk : ¬ p.1 = k := fun z => by rw [valV_pos z] at hn; cases hn
    rw [valV_neg hk] at hn
    have ih := valV_snoc k j y r hn
    by_cases e : p.1 = j
    · rw [valV_pos e, valV_pos e, if_neg (fun z => hk (e.trans z))]
    · rw [valV_neg e, valV_neg e, ih]
theorem valV_put (kvs : List (κ × V)) (k j : κ) (y : V) : valV (putK kvs k y) j = if j = k then some y else valV kvs j := by
  unfold putK
  by_cases a : (kvs.any fun kv => decide (kv.1 = k)) = true
  · rw [if_pos a, valV_map]
    rw [valV_any] at a
    by_cases e : j = k
    · obtain ⟨x, hx⟩ := Option.isSome_iff_exists.mp a
      rw [if_pos e, e, hx, Option.map_some, if_pos rfl]
    · rw [if_neg e]
      cases valV kvs j with
      | none => rfl
      | some x => rw [Option.map_some, if_neg e]
  · rw [if_neg a]
    refine valV_snoc k j y kvs ?_
    rw [valV_any] at a
    cases q : valV kvs k with
    | none => rfl
    | some x => rw [q] at a; exact (a rfl).elim
theorem length_putK (kvs : List (κ × V)) (k : κ) (v : V) : (putK kvs k v).length ≤ kvs.length + 1 := by
  unfold putK
  split
  · rw [List.length_map]; omega
  · rw [List.length_append, List.length_cons, List.length_nil]; omega
theorem putK_new {kvs : List (κ × V)} {k : κ} (v : V) (h : valV kvs k = none) : putK kvs k v = kvs ++ [(k, v)] := by
  unfold putK
  rw [valV_any, h]
  exact if_neg (by decide)

theorem RelO.isSome_eq {o : Option V} {u : Option Value} (r : RelO o u) : o.isSome = u.isSome := by
  cases o with
  | none => cases u with
    | none => rfl
    | some _ => exact (show False from r).elim
  | some _ => cases u with
    | none => exact (show False from r).elim
    | some _ => rfl
theorem RelO.getD {o : Option V} {u : Option Value} {d : V} {d' : Value} (r : RelO o u) (rd : RelV d d') : RelV (o.getD d) (u.getD d') := by
  cases o with
  | none => cases u with
    | none => exact rd
    | some _ => exact (show False from r).elim
  | some _ => cases u with
    | none => exact (show False from r).elim
    | some _ => exact r

/-- raw tables of the same keys -/
theorem KV.val {kvs : List (κ × V)} {vs : List (κ × Value)} (r : KV kvs vs) (k : κ) : RelO (valV kvs k) (valueAt vs k) := by
  unfold KV at r
  induction r with
  | nil => exact True.intro
  | @cons p q ps qs h t ih =>
    obtain ⟨h1, h2⟩ := h
    by_cases e : p.1 = k
    · have e' : q.1 = k := h1.symm.trans e
      have b : valueAt (q :: qs) k = some q.2 := by simp [valueAt, List.find?_cons, e']
      rw [valV_pos e, b]; exact h2
    · have e' : ¬ q.1 = k := fun z => e (h1.trans z)
      have b : valueAt (q :: qs) k = valueAt qs k := by simp [valueAt, List.find?_cons, e']
      rw [valV_neg e, b]; exact ih
theorem KV.any {kvs : List (κ × V)} {vs : List (κ × Value)} (r : KV kvs vs) (k : κ) : (kvs.any fun kv => decide (kv.1 = k)) = vs.any fun kv => decide (kv.1 = k) := by
  unfold KV at r
  induction r with
  | nil => rfl
  | cons h t ih => rw [List.any_cons, List.any_cons, ih, h.1]
theorem KV.repl {kvs : List (κ × V)} {vs : List (κ × Value)} (r : KV kvs vs) (k : κ) {y : V} {u : Value} (ry : RelV y u) :
    KV (kvs.map fun kv => if kv.1 = k then (kv.1, y) else kv) (vs.map fun kv => if kv.1 = k then (kv.1, u) else kv) := by
  unfold KV at r ⊢
  induction r with
  | nil => exact .nil
  | @cons p q ps qs h t ih =>
    rw [List.map_cons, List.map_cons]
    refine .cons ?_ ih
    obtain ⟨h1, h2⟩ := h
    by_cases e : p.1 = k
    · rw [if_pos e, if_pos (h1.symm.trans e)]; exact ⟨h1, ry⟩
    · rw [if_neg e, if_neg (fun z => e (h1.trans z))]; exact ⟨h1, h2⟩
theorem KV.put {kvs : List (κ × V)} {vs : List (κ × Value)} (r : KV kvs vs) (k : κ) {y : V} {u : Value} (ry : RelV y u) : KV (putK kvs k y) (stored vs k u) := by
  unfold putK stored
  rw [r.any k]
  by_cases e : (vs.any fun kv => decide (kv.1 = k)) = true
  · rw [if_pos e, if_pos e]; exact r.repl k ry
  · rw [if_neg e, if_neg e]; exact Paired.snoc r ⟨rfl, ry⟩
theorem KV.drop {kvs : List (κ × V)} {vs : List (κ × Value)} (r : KV kvs vs) (k : κ) : KV (dropK kvs k) (without vs k) := by
  unfold KV at r ⊢
  unfold dropK without
  induction r with
  | nil => exact .nil
  | @cons p q ps qs h t ih =>
    obtain ⟨h1, h2⟩ := h
    rw [List.filter_cons, List.filter_cons]
    by_cases e : p.1 = k
    · have a : ¬ decide (p.1 ≠ k) = true := by simp [e]
      have b : ¬ decide (q.1 ≠ k) = true := by simp [h1.symm.trans e]
      rw [if_neg a, if_neg b]; exact ih
    · have e' : ¬ q.1 = k := fun z => e (h1.trans z)
      have a : decide (p.1 ≠ k) = true := by simp [e]
      have b : decide (q.1 ≠ k) = true := by simp [e']
      rw [if_pos a, if_pos b]; exact .cons ⟨h1, h2⟩ ih
theorem KV.keys {kvs : List (κ × V)} {vs : List (κ × Value)} (r : KV kvs vs) : kvs.map (·.1) = vs.map (·.1) := by
  unfold KV at r
  induction r with
  | nil => rfl
  | cons h t ih => rw [List.map_cons, List.map_cons, ih, h.1]
theorem KV.length {kvs : List (κ × V)} {vs : List (κ × Value)} (r : KV kvs vs) : kvs.length = vs.length := Paired.length r
theorem dropK_le (kvs : List (κ × V)) (k : κ) : (dropK kvs k).length ≤ kvs.length := List.length_filter_le _ _
end


/-! ### a tracked dict, its keys ints and texts or tuples of these -/
theorem kV_is {P : Program} {w : World} {k : Key} {u : Value} (r : RelV (kV k) u) : (mixKind P w).is k u = true := by
  cases k with
  | inl i => obtain ⟨t, e⟩ := (show ∃ t, u = Value.int i t from r); subst e; exact mixKind_int P w i t
  | inr x => obtain ⟨t, e⟩ := (show ∃ t, u = Value.str x t from r); subst e; exact mixKind_str P w x t
theorem kV_inj {a b : Key} (e : kV a = kV b) : a = b := by
  cases a with
  | inl i => cases b with
    | inl j => have e' : V.int i = V.int j := e; injection e' with e'; rw [e']
    | inr y => exact nomatch (show V.int i = V.str y from e)
  | inr x => cases b with
    | inl j => exact nomatch (show V.str x = V.int j from e)
    | inr y => have e' : V.str x = V.str y := e; injection e' with e'; rw [e']
theorem kVs_inj : ∀ {a b : List Key}, a.map kV = b.map kV → a = b
  | [], [], _ => rfl
  | [], _ :: _, e => by simp at e
  | _ :: _, [], e => by simp at e
  | x :: xs, y :: ys, e => by
    rw [List.map_cons, List.map_cons] at e
    injection e with e1 e2
    rw [kV_inj e1, kVs_inj e2]
theorem items_are {P : Program} {w : World} : ∀ {ks : List Key} {us : List Value}, Vals (ks.map kV) us → ItemsAre (mixKind P w) ks us
  | [], _, r => by rw [List.map_nil] at r; cases r; exact .nil
  | k :: ks, _, r => by
    rw [List.map_cons] at r
    cases r with
    | cons h t => exact .cons (kV_is h) (items_are t)

/-- raw entries of a dict with tuple keys -/
abbrev KT (H : Hp) : List (List Key × V) → List (List Key × Addr × Value) → Prop := Paired fun p q => p.1 = q.1 ∧ H q.2.1 = some (.tup (p.1.map kV)) ∧ RelV p.2 q.2.2
theorem KT.val {H : Hp} {kvs : List (List Key × V)} {xs : List (List Key × Addr × Value)} (r : KT H kvs xs) (k : List Key) : RelO (valV kvs k) ((atKey xs k).map (·.2)) := by
  induction r with
  | nil => exact True.intro
  | @cons p q ps qs h t ih =>
    obtain ⟨h1, _, h2⟩ := h
    by_cases e : p.1 = k
    · have e' : q.1 = k := h1.symm.trans e
      have b : atKey (q :: qs) k = some q.2 := by simp [atKey, List.find?_cons, e']
      rw [valV_pos e, b]; exact h2
    · have e' : ¬ q.1 = k := fun z => e (h1.trans z)
      have b : atKey (q :: qs) k = atKey qs k := by simp [atKey, List.find?_cons, e']
      rw [valV_neg e, b]; exact ih
theorem KT.repl {H : Hp} {kvs : List (List Key × V)} {xs : List (List Key × Addr × Value)} (r : KT H kvs xs) (k : List Key) {y : V} {u : Value} (ry : RelV y u) :
    KT H (kvs.map fun kv => if kv.1 = k then (kv.1, y) else kv) (xs.map (putAt k u)) := by
  induction r with
  | nil => exact .nil
  | @cons p q ps qs h t ih =>
    rw [List.map_cons, List.map_cons]
    refine .cons ?_ ih
    obtain ⟨h1, h2, h3⟩ := h
    unfold putAt
    by_cases e : p.1 = k
    · rw [if_pos e, if_pos (h1.symm.trans e)]; exact ⟨h1, h2, ry⟩
    · rw [if_neg e, if_neg (fun z => e (h1.trans z))]; exact ⟨h1, h2, h3⟩
theorem KT.put {H : Hp} {kvs : List (List Key × V)} {xs : List (List Key × Addr × Value)} (r : KT H kvs xs) (k : List Key) {b : Addr} {y : V} {u : Value} (hb : H b = some (.tup (k.map kV))) (ry : RelV y u) :
    KT H (putK kvs k y) (storedH xs k b u) := by
  have e : (kvs.any fun kv => decide (kv.1 = k)) = (atKey xs k).isSome := by
    rw [valV_any, (r.val k).isSome_eq, Option.isSome_map]
  unfold putK storedH
  rw [e]
  by_cases q : (atKey xs k).isSome = true
  · rw [if_pos q, if_pos q]; exact r.repl k ry
  · rw [if_neg q, if_neg q]; exact Paired.snoc r ⟨rfl, hb, ry⟩
theorem KT.keeps {H H' : Hp} {kvs : List (List Key × V)} {xs : List (List Key × Addr × Value)} (r : KT H kvs xs) (ht : ∀ b ys, H b = some (.tup ys) → H' b = some (.tup ys)) : KT H' kvs xs :=
  Paired.mapP r fun _ _ z => ⟨z.1, ht _ _ z.2.1, z.2.2⟩

section
variable {P : Program} {w : World} {H : Hp} {h : Heap} {a : Addr}
theorem rd_of {u : HO} (ok : HOk P w H h) (e : Rd H a u) : ObjOk P w H h a u := e.ok ok
theorem dk_rd {kvs : List (Key × V)} (ok : HOk P w H h) (e : Rd H a (.dK kvs)) : kvs.length ≤ sizeLine ∧ (a == sysModules) = false ∧ ∃ vs, KV kvs vs ∧ h.DictOf (mixKind P w) a vs :=
  show ObjOk P w H h a (.dK kvs) from rd_of ok e
theorem dk_of {kvs : List (Key × V)} (ok : HOk P w H h) (e : H a = some (.dK kvs)) : kvs.length ≤ sizeLine ∧ (a == sysModules) = false ∧ ∃ vs, KV kvs vs ∧ h.DictOf (mixKind P w) a vs := dk_rd ok (.inl e)
/-- a tracked tuple of ints and texts is a key -/
theorem key_of {ks : List Key} (ok : HOk P w H h) (e : H a = some (.tup (ks.map kV))) : (tupleKind (mixKind P w)).is h ks a := by
  obtain ⟨_, its, r, o, h1, h2, n, h3⟩ := (show ObjOk P w H h a (.tup (ks.map kV)) from ok a _ e)
  exact ⟨o, its.toArray, n, h1, h2, h3, by simpa using items_are r⟩
theorem dt_rd {kvs : List (List Key × V)} (ok : HOk P w H h) (e : Rd H a (.dT kvs)) : kvs.length ≤ sizeLine ∧ (a == sysModules) = false ∧
    ∃ xs, KT H kvs xs ∧ h.DictOfH (tupleKind (mixKind P w)) a xs := by
  obtain ⟨z, y, xs, r, o, es, ep, h1, h2, h3, h4, h5⟩ := (show ObjOk P w H h a (.dT kvs) from rd_of ok e)
  refine ⟨z, y, xs, r, o, es, ep, h1, h2, h3, h4, fun x hx => ?_, h5⟩
  have all : ∀ {l : List (List Key × V)} {m : List (List Key × Addr × Value)}, KT H l m → ∀ x ∈ m, (tupleKind (mixKind P w)).is h x.1 x.2.1 := by
    intro l m q
    induction q with
    | nil => intro x hx; exact nomatch hx
    | @cons p q ps qs hq t ih =>
      intro x hx
      rcases List.mem_cons.mp hx with e | hx
      · subst e
        exact key_of ok (by rw [← hq.1]; exact hq.2.1)
      · exact ih x hx
  exact all r x hx
theorem dt_of {kvs : List (List Key × V)} (ok : HOk P w H h) (e : H a = some (.dT kvs)) : kvs.length ≤ sizeLine ∧ (a == sysModules) = false ∧
    ∃ xs, KT H kvs xs ∧ h.DictOfH (tupleKind (mixKind P w)) a xs := dt_rd ok (.inl e)
end

/-- what the dict at a holds at the key y -/
def DGet (H : Hp) (a : Addr) (y : V) (r : Option V) : Prop :=
  (∃ kvs k, Rd H a (.dK kvs) ∧ y = kV k ∧ r = valV kvs k) ∨ ∃ kvs k b, Rd H a (.dT kvs) ∧ y = .ref b ∧ H b = some (.tup (k.map kV)) ∧ r = valV kvs k
/-- the heap behind a[y] = v -/
def DPut (H : Hp) (a : Addr) (y v : V) (H' : Hp) : Prop :=
  (∃ kvs k, H a = some (.dK kvs) ∧ y = kV k ∧ kvs.length < sizeLine ∧ H' = upd H a (.dK (putK kvs k v))) ∨
  ∃ kvs k b, H a = some (.dT kvs) ∧ y = .ref b ∧ H b = some (.tup (k.map kV)) ∧ kvs.length < sizeLine ∧ H' = upd H a (.dT (putK kvs k v))
theorem DGet.k {H : Hp} {a : Addr} {kvs : List (Key × V)} {k : Key} (e : H a = some (.dK kvs)) : DGet H a (kV k) (valV kvs k) := .inl ⟨kvs, k, .inl e, rfl, rfl⟩
theorem DGet.t {H : Hp} {a b : Addr} {kvs : List (List Key × V)} {k : List Key} (e : H a = some (.dT kvs)) (eb : H b = some (.tup (k.map kV))) : DGet H a (.ref b) (valV kvs k) := .inr ⟨kvs, k, b, .inl e, rfl, eb, rfl⟩
theorem DPut.k {H : Hp} {a : Addr} {kvs : List (Key × V)} {k : Key} {v : V} (e : H a = some (.dK kvs)) (hl : kvs.length < sizeLine) : DPut H a (kV k) v (upd H a (.dK (putK kvs k v))) := .inl ⟨kvs, k, e, rfl, hl, rfl⟩
theorem DPut.t {H : Hp} {a b : Addr} {kvs : List (List Key × V)} {k : List Key} {v : V} (e : H a = some (.dT kvs)) (eb : H b = some (.tup (k.map kV))) (hl : kvs.length < sizeLine) :
    DPut H a (.ref b) v (upd H a (.dT (putK kvs k v))) := .inr ⟨kvs, k, b, e, rfl, eb, hl, rfl⟩


section
variable {X : Cx} {pins : List (Addr × Obj)} {σ : St} {H : Hp} {s : Shared} {a : Addr} {y v : V} {u r : Value} {o : Option V} {A : Around} {E : Value → Shared → Prop}

theorem Inv.big (I : Inv X pins σ H s) : sysModules < s.heap.objs.size := by
  have h : mainGlobals < s.heap.objs.size := (I.mod.glob.keeps I.bk).lt
  exact Nat.lt_trans (by decide) h

/-- d[y], there -/
theorem d_getItem {Q : Value → Shared → Prop} (hu : A.units + 1 < cLine) (I : Inv X pins σ H s) (g : DGet H a y (some v)) (ry : RelV y u) (h : ∀ w' s', Inv X pins σ H s' → RelV v w' → Q w' s') :
    wpAny (model X.prog X.w) A (getItem (.ref a) u) Q E s := by
  rcases g with ⟨kvs, k, e, ey, l⟩ | ⟨kvs, k, b, e, ey, eb, l⟩
  · subst ey
    obtain ⟨z, hd, vs, rel, dd⟩ := dk_rd I.hok e
    obtain ⟨w', hw, rw'⟩ := RelO.some_of (v := v) (o := valueAt vs k) (by rw [l]; exact rel.val k)
    exact wpAny_getItem_of (kV_is ry) dd.mapOf hw (h w' _ (I.tok _) rw')
  · subst ey
    cases (show u = Value.ref b from ry)
    obtain ⟨z, hd, xs, rel, dd⟩ := dt_rd I.hok e
    obtain ⟨w', hw, rw'⟩ := RelO.some_of (v := v) (o := (atKey xs k).map (·.2)) (by rw [l]; exact rel.val k)
    obtain ⟨p, hp, hp2⟩ := Option.map_eq_some_iff.mp hw
    refine wpAny_getItem_heap (tupleKind_room_in1 hu) (key_of I.hok eb) dd hp ?_
    rw [hp2]
    exact h w' _ (I.tok _) rw'
/-- y in d -/
theorem d_in {Q : Value → Shared → Prop} (hu : A.units + 1 < cLine) (I : Inv X pins σ H s) (g : DGet H a y o) (ry : RelV y u) (h : ∀ s', Inv X pins σ H s' → Q (.bool o.isSome) s') :
    wpAny (model X.prog X.w) A (compareOp .In u (.ref a)) Q E s := by
  rcases g with ⟨kvs, k, e, ey, l⟩ | ⟨kvs, k, b, e, ey, eb, l⟩
  · subst ey
    obtain ⟨z, hd, vs, rel, dd⟩ := dk_rd I.hok e
    refine wpAny_in_of (kV_is ry) hd dd.mapOf ?_
    rw [← (rel.val k).isSome_eq, ← l]
    exact h _ (I.tok _)
  · subst ey
    cases (show u = Value.ref b from ry)
    obtain ⟨z, hd, xs, rel, dd⟩ := dt_rd I.hok e
    refine wpAny_in_heap (tupleKind_room_in1 hu) (key_of I.hok eb) hd dd ?_
    have q := (rel.val k).isSome_eq
    rw [Option.isSome_map] at q
    rw [← q, ← l]
    exact h _ (I.tok _)
theorem d_notIn {Q : Value → Shared → Prop} (hu : A.units + 1 < cLine) (I : Inv X pins σ H s) (g : DGet H a y o) (ry : RelV y u) (h : ∀ s', Inv X pins σ H s' → Q (.bool (!o.isSome)) s') :
    wpAny (model X.prog X.w) A (compareOp .NotIn u (.ref a)) Q E s := by
  rcases g with ⟨kvs, k, e, ey, l⟩ | ⟨kvs, k, b, e, ey, eb, l⟩
  · subst ey
    obtain ⟨z, hd, vs, rel, dd⟩ := dk_rd I.hok e
    refine wpAny_notIn_of (kV_is ry) hd dd.mapOf ?_
    rw [← (rel.val k).isSome_eq, ← l]
    exact h _ (I.tok _)
  · subst ey
    cases (show u = Value.ref b from ry)
    obtain ⟨z, hd, xs, rel, dd⟩ := dt_rd I.hok e
    refine wpAny_notIn_heap (tupleKind_room_in1 hu) (key_of I.hok eb) hd dd ?_
    have q := (rel.val k).isSome_eq
    rw [Option.isSome_map] at q
    rw [← q, ← l]
    exact h _ (I.tok _)
/-- a dict's object is replaced -/
theorem d_write {h' : Heap} {t' : Nat} {ob : HO} (I : Inv X pins σ H s) (mu : Mut (H a)) (hs : Heap.SameBut a s.heap h') (he : ∃ q, h'.get? a = some q) (new : ObjOk X.prog X.w (upd H a ob) h' a ob) :
    Inv X pins σ (upd H a ob) { s with heap := h', toks := t' } :=
  I.write (x := a) (e := a) mu (.inl rfl) (fun b q hb z => (hs.2 b hb).trans z) he new
theorem dk_new {P : Program} {w : World} {H' : Hp} {h' : Heap} {kvs : List (Key × V)} {vs : List (Key × Value)} (z : kvs.length ≤ sizeLine) (hd : (a == sysModules) = false) (rel : KV kvs vs) (dd : h'.DictOf (mixKind P w) a vs) :
    ObjOk P w H' h' a (.dK kvs) := ⟨z, hd, vs, rel, dd⟩
/-- d[y] = v -/
theorem d_setItem {H' : Hp} {Q : Unit → Shared → Prop} (hu : A.units + 1 < cLine) (I : Inv X pins σ H s) (g : DPut H a y v H') (ry : RelV y u) (rv : RelV v r) (h : ∀ s', Inv X pins σ H' s' → Q () s') :
    wpAny (model X.prog X.w) A (setItem (.ref a) u r) Q E s := by
  rcases g with ⟨kvs, k, e, ey, l, eH⟩ | ⟨kvs, k, b, e, ey, eb, l, eH⟩
  · subst ey eH
    obtain ⟨z, hd, vs, rel, dd⟩ := dk_of I.hok e
    have hz : vs.length ≤ sizeLine := by rw [← rel.length]; exact z
    have hl : (putK kvs k v).length ≤ sizeLine := by have := length_putK kvs k v; omega
    refine wpAny_setItem_pairs (hsz := hz) (kV_is ry) dd fun h' dd' hs => h _ ?_
    have he : ∃ q, h'.get? a = some q := let ⟨q, _, _, hq, _⟩ := dd'; ⟨q, hq⟩
    exact d_write I (by rw [e]; exact True.intro) hs he (dk_new hl hd (rel.put k rv) dd')
  · subst ey eH
    cases (show u = Value.ref b from ry)
    obtain ⟨z, hd, xs, rel, dd⟩ := dt_of I.hok e
    have hz : xs.length ≤ sizeLine := by rw [← Paired.length rel]; exact z
    have hl : (putK kvs k v).length ≤ sizeLine := by have := length_putK kvs k v; omega
    refine wpAny_setItem_heap (hsz := hz) (tupleKind_room_in1 hu) (key_of I.hok eb) dd fun h' dd' hs => h _ ?_
    obtain ⟨q, es, ep, hq, h2, h3, h4, _, h5⟩ := dd'
    refine d_write I (by rw [e]; exact True.intro) hs ⟨q, hq⟩ ⟨hl, hd, _, (rel.put k eb rv).keeps fun c ys ec => ?_, q, es, ep, hq, h2, h3, h4, h5⟩
    rw [upd_ne (ne_of ec e (fun z => nomatch z))]
    exact ec
end

section
variable {X : Cx} {pins : List (Addr × Obj)} {σ : St} {H : Hp} {s : Shared} {a : Addr} {kvs : List (Key × V)} {k : Key} {u : Value} {A : Around} {E : Value → Shared → Prop}
/-- del d[k] -/
theorem d_delItem {Q : Unit → Shared → Prop} (I : Inv X pins σ H s) (e : H a = some (.dK kvs)) (ry : RelV (kV k) u) (l : (valV kvs k).isSome = true) (h : ∀ s', Inv X pins σ (upd H a (.dK (dropK kvs k))) s' → Q () s') :
    wpAny (model X.prog X.w) A (delItem (.ref a) u) Q E s := by
  obtain ⟨z, hd, vs, rel, dd⟩ := dk_of I.hok e
  refine wpAny_delItem_slot dd.typeIs (by decide) PySem.F.slot_dict_delitem
    (call_meetsIn PySem.F.slot_dict_delitem dd.typeIs PySem.F.entry_dict_delitem (PySem.F.args_dict_delitem_2 _ _) (meets_dict_delitem_pairs (mixKind X.prog X.w) a (kV_is ry)) ⟨vs, dd, by rw [← rel.length]; exact z, by rw [← (rel.val k).isSome_eq]; exact l, fun h' dd' hs => h _ ?_⟩)
  have he : ∃ q, h'.get? a = some q := let ⟨q, _, _, hq, _⟩ := dd'; ⟨q, hq⟩
  exact d_write I (by rw [e]; exact True.intro) hs he (dk_new (Nat.le_trans (dropK_le kvs k) z) hd (rel.drop k) dd')
/-- d.pop(k[, x]), there -/
theorem d_pop {v : V} {more : List Value} {Q : Value → Shared → Prop} (I : Inv X pins σ H s) (e : H a = some (.dK kvs)) (ry : RelV (kV k) u) (l : valV kvs k = some v) (hm : more = [] ∨ ∃ x, more = [x])
    (h : ∀ w' s', Inv X pins σ (upd H a (.dK (dropK kvs k))) s' → RelV v w' → Q w' s') : wpAny (model X.prog X.w) A (call (.builtin "dict.pop") (.ref a :: u :: more)) Q E s := by
  obtain ⟨z, hd, vs, rel, dd⟩ := dk_of I.hok e
  obtain ⟨w', hw, rw'⟩ := RelO.some_of (v := v) (o := valueAt vs k) (by rw [← l]; exact rel.val k)
  have hp : (keyPart u).isSome = true := by
    cases k with
    | inl i => obtain ⟨t, q⟩ := (show ∃ t, u = Value.int i t from ry); subst q; rfl
    | inr x => obtain ⟨t, q⟩ := (show ∃ t, u = Value.str x t from ry); subst q; rfl
  have ha : argsOk "dict.pop" ⟨.ref a :: u :: more, []⟩ := by
    rcases hm with q | ⟨x, q⟩
    · subst q; exact PySem.F.args_dict_pop_2 _ _
    · subst q; exact PySem.F.args_dict_pop_3 _ _ _
  refine call_meetsIn PySem.F.slot_dict_pop dd.typeIs PySem.F.entry_dict_pop ha (meets_dict_pop_there (mixKind X.prog X.w) a (kV_is ry) more hm hp)
    ⟨vs, w', dd, by rw [← rel.length]; exact z, hw, fun h' dd' hs => h w' _ ?_ rw'⟩
  have he : ∃ q, h'.get? a = some q := let ⟨q, _, _, hq, _⟩ := dd'; ⟨q, hq⟩
  exact d_write I (by rw [e]; exact True.intro) hs he (dk_new (Nat.le_trans (dropK_le kvs k) z) hd (rel.drop k) dd')
/-- d.pop(k, x), not there -/
theorem d_popD {r : Value} {Q : Value → Shared → Prop} (I : Inv X pins σ H s) (e : H a = some (.dK kvs)) (ry : RelV (kV k) u) (l : valV kvs k = none) (h : ∀ s', Inv X pins σ H s' → Q r s') :
    wpAny (model X.prog X.w) A (call (.builtin "dict.pop") [.ref a, u, r]) Q E s := by
  obtain ⟨z, hd, vs, rel, dd⟩ := dk_of I.hok e
  have hn : valueAt vs k = none := RelO.none_of (by rw [← l]; exact rel.val k)
  have hp : (keyPart u).isSome = true := by
    cases k with
    | inl i => obtain ⟨t, q⟩ := (show ∃ t, u = Value.int i t from ry); subst q; rfl
    | inr x => obtain ⟨t, q⟩ := (show ∃ t, u = Value.str x t from ry); subst q; rfl
  exact call_meetsIn PySem.F.slot_dict_pop dd.typeIs PySem.F.entry_dict_pop (PySem.F.args_dict_pop_3 _ _ _) (meets_dict_pop_default (mixKind X.prog X.w) a (kV_is ry) hd hp r) ⟨vs, dd, hn, h _ (I.tok _)⟩
/-- d.clear() -/
theorem d_clear {Q : Value → Shared → Prop} (I : Inv X pins σ H s) (e : H a = some (.dK kvs)) (h : ∀ s', Inv X pins σ (upd H a (.dK [])) s' → Q .none s') : wpAny (model X.prog X.w) A (call (.builtin "dict.clear") [.ref a]) Q E s := by
  obtain ⟨z, hd, vs, rel, dd⟩ := dk_of I.hok e
  refine call_meetsIn PySem.F.slot_dict_clear dd.typeIs PySem.F.entry_dict_clear (PySem.F.args_dict_clear_1 _) (meets_dict_clear (mixKind X.prog X.w) a) ⟨vs, dd, by rw [← rel.length]; exact z, fun h' dd' hs => h _ ?_⟩
  have he : ∃ q, h'.get? a = some q := let ⟨q, _, _, hq, _⟩ := dd'; ⟨q, hq⟩
  exact d_write (t' := s.toks) I (by rw [e]; exact True.intro) hs he (dk_new (Nat.zero_le _) hd .nil dd')
/-- len(d) -/
theorem d_len {Q : Value → Shared → Prop} (I : Inv X pins σ H s) (e : Rd H a (.dK kvs)) (h : ∀ t s', Inv X pins σ H s' → Q (.int kvs.length t) s') : wpAny (model X.prog X.w) A (call (.builtin "len") [.ref a]) Q E s := by
  obtain ⟨z, hd, vs, rel, dd⟩ := dk_rd I.hok e
  refine call_len_dict hd dd (by rw [← rel.length]; rw [sizeLine_eq] at z; omega) ?_
  rw [← rel.length]
  exact h _ _ (I.tok _)
/-- if d -/
theorem d_truth {Q : Bool → Shared → Prop} (I : Inv X pins σ H s) (e : Rd H a (.dK kvs)) (h : ∀ s', Inv X pins σ H s' → Q (!kvs.isEmpty) s') : wpAny (model X.prog X.w) A (truthy (.ref a)) Q E s := by
  obtain ⟨z, hd, vs, rel, dd⟩ := dk_rd I.hok e
  refine wpAny_truthy_dict hd dd (by rw [← rel.length]; rw [sizeLine_eq] at z; omega) ?_
  have q : kvs.isEmpty = vs.isEmpty := by cases rel <;> rfl
  rw [← q]
  exact h _ (I.tok _)
end


/-! ### readings and rules -/
/-- the element of a subscription, not a slice -/
def NoSl (i : Expr) : Prop := ∀ ov iv, subscripted i false ov iv = operate [ov, iv] (getItem ov iv)
theorem subD_of {prog : Program} {w : World} {A : Around} {E : Value → Shared → Prop} {s : Shared} {env : Env} {value slice : Expr} {pos : Pos} {T id : String} {Q : Value → Shared → Prop}
    (hl : typeLookup (.type T) "__getitem__" = pure (some (.builtin id))) (hs : NoSl slice)
    (h : wpAny (model prog w) A (eval value env) (fun o s₁ => wpAny (model prog w) A (eval slice env) (fun i s₂ => s₂.TypeIs o T ∧ wpAny (model prog w) A (getItem o i) Q E s₂) E s₁) E s) :
    wpAny (model prog w) A (eval (.Subscript value slice pos) env) Q E s := by
  refine Subscript_ (wpAny_mono h (fun o s₁ h₁ => wpAny_mono h₁ (fun i s₂ h₂ => ?_) fun _ _ x => x) fun _ _ x => x)
  obtain ⟨hT, h₂⟩ := h₂
  unfold subscriptTail
  refine wpAny_bind ?_
  rw [getitemInPython_of_ne hT.not_modules]
  refine wpAny_bind (wpAny_specialOf hT hl ?_)
  have fin : wpAny (model prog w) A (subscripted slice false o i) (fun r s₃ => wpAny (model prog w) A (letTemporaryGo value o r >>= fun _ => pure r) Q E s₃) E s₂ := by
    rw [hs o i]
    exact wpAny_operating (wpAny_mono h₂ (fun r s₃ h₃ => wpAny_bind (wpAny_letTemporaryGo (wpAny_pure h₃))) fun _ _ x => x)
  first
    | exact wpAny_pure (wpAny_bind fin)
    | exact wpAny_bind (wpAny_pure (wpAny_bind fin))
    | exact wpAny_bind fin

theorem dict_typeIs {X : Cx} {pins : List (Addr × Obj)} {σ : St} {H : Hp} {s : Shared} {a : Addr} {y : V} {o : Option V} (I : Inv X pins σ H s) (g : DGet H a y o) : s.TypeIs (.ref a) "dict" := by
  rcases g with ⟨kvs, k, e, _, _⟩ | ⟨kvs, k, b, e, _, _, _⟩
  · obtain ⟨_, _, vs, _, dd⟩ := dk_rd I.hok e
    exact dd.typeIs
  · obtain ⟨_, _, xs, _, dd⟩ := dt_rd I.hok e
    exact dd.typeIs
theorem dict_noDict {X : Cx} {pins : List (Addr × Obj)} {σ : St} {H : Hp} {s : Shared} {a : Addr} {y : V} {o : Option V} (I : Inv X pins σ H s) (g : DGet H a y o) :
    ∀ b, Value.ref a = .ref b → ∃ ob, s.heap.get? b = some ob ∧ ob.dict = none := fun b q => by
  cases q
  rcases g with ⟨kvs, k, e, _, _⟩ | ⟨kvs, k, b, e, _, _, _⟩
  · obtain ⟨_, _, vs, _, ob, _, _, h1, h2, _⟩ := dk_rd I.hok e
    exact ⟨ob, h1, h2.2.1⟩
  · obtain ⟨_, _, xs, _, ob, _, _, h1, h2, _⟩ := dt_rd I.hok e
    exact ⟨ob, h1, h2.2.1⟩

/-- d[y] -/
def tDGet (td ty : TE) : TE := fun σ H Q => td σ H fun x H1 => ty σ H1 fun y H2 => ∃ a v, x = .ref a ∧ DGet H2 a y (some v) ∧ Q v H2
/-- y in d, y not in d -/
def tDIn (ty td : TE) : TE := fun σ H Q => ty σ H fun y H1 => td σ H1 fun x H2 => ∃ a o, x = .ref a ∧ DGet H2 a y o ∧ Q (.bl o.isSome) H2
def tDNotIn (ty td : TE) : TE := fun σ H Q => ty σ H fun y H1 => td σ H1 fun x H2 => ∃ a o, x = .ref a ∧ DGet H2 a y o ∧ Q (.bl (!o.isSome)) H2
/-- d[y] = v -/
def sDPut (td ty tv : TE) : TS := fun D σ H => tv σ H fun v H1 => td σ H1 fun x H2 => ty σ H2 fun y H3 => ∃ a H4, x = .ref a ∧ DPut H3 a y v H4 ∧ D.nx σ H4
/-- d[y] op= v -/
def sDAug (td ty tv : TE) (rd : V → V → Hp → VK → Prop) : TS := fun D σ H => td σ H fun x H1 => ty σ H1 fun y H2 => ∃ a v, x = .ref a ∧ DGet H2 a y (some v) ∧
  tv σ H2 fun y2 H3 => rd v y2 H3 fun z H4 => ∃ H5, DPut H4 a y z H5 ∧ D.nx σ H5
/-- del d[y] -/
def sDDel (td ty : TE) : TS := fun D σ H => td σ H fun x H1 => ty σ H1 fun y H2 => ∃ a kvs k, x = .ref a ∧ H2 a = some (.dK kvs) ∧ y = kV k ∧ (valV kvs k).isSome = true ∧ D.nx σ (upd H2 a (.dK (dropK kvs k)))

section
variable {X : Cx} {o i e value : Expr} {pos pos' tpos : Pos} {td ty tv : TE}
theorem pe_dget (hu : X.A.units + 1 < cLine) (ho : PE X o td) (hi : PE X i ty) (hs : NoSl i) : PE X (.Subscript o i pos) (tDGet td ty) := by
  intro pins s σ H Q I h
  refine subD_of PySem.F.slot_dict_getitem.lookup hs (thn (ho pins s σ H _ I h) fun u s1 ⟨x, H1, I1, rx, q1⟩ => thn (hi pins s1 σ H1 _ I1 q1) fun iv s2 ⟨y, H2, I2, ry, a, v, ex, g, q2⟩ => ?_)
  subst ex
  obtain rfl : u = Value.ref a := rx
  exact ⟨dict_typeIs I2 g, d_getItem hu I2 g ry fun w' s3 I3 rw' => ⟨v, H2, I3, rw', q2⟩⟩
theorem pc_din (hu : X.A.units + 1 < cLine) (hi : PE X i ty) (ho : PE X o td) : PC X .In i o (tDIn ty td) := by
  intro pins s σ H Q I h
  refine thn (hi pins s σ H _ I h) fun iv s1 ⟨y, H1, I1, ry, q1⟩ => thn (ho pins s1 σ H1 _ I1 q1) fun u s2 ⟨x, H2, I2, rx, a, ov, ex, g, q2⟩ => ?_
  subst ex
  obtain rfl : u = Value.ref a := rx
  exact d_in hu I2 g ry fun s3 I3 => ⟨.bl ov.isSome, H2, I3, rfl, q2⟩
theorem pc_dnotin (hu : X.A.units + 1 < cLine) (hi : PE X i ty) (ho : PE X o td) : PC X .NotIn i o (tDNotIn ty td) := by
  intro pins s σ H Q I h
  refine thn (hi pins s σ H _ I h) fun iv s1 ⟨y, H1, I1, ry, q1⟩ => thn (ho pins s1 σ H1 _ I1 q1) fun u s2 ⟨x, H2, I2, rx, a, ov, ex, g, q2⟩ => ?_
  subst ex
  obtain rfl : u = Value.ref a := rx
  exact d_notIn hu I2 g ry fun s3 I3 => ⟨.bl (!ov.isSome), H2, I3, rfl, q2⟩
theorem ps_dput (hu : X.A.units + 1 < cLine) (ho : PE X o td) (hi : PE X i ty) (hv : PE X value tv) (hs : swapsWith value (some (.Subscript o i pos')) pos.line X.env = pure false) :
    PS X (.Assign [.Subscript o i pos'] value pos) (sDPut td ty tv) := by
  intro pins s σ H D I h
  refine wpAny_Assign_Subscript (thn (hv pins s σ H _ I h) fun r s1 ⟨v, H1, I1, rv, q1⟩ => thn (ho pins s1 σ H1 _ I1 q1) fun u s2 ⟨x, H2, I2, rx, q2⟩ => thn (hi pins s2 σ H2 _ I2 q2) fun iv s3 ⟨y, H3, I3, ry, a, H4, ex, g, q3⟩ => ?_) hs
  subst ex
  obtain rfl : u = Value.ref a := rx
  exact d_setItem hu I3 g ry rv fun s4 I4 => ⟨σ, H4, I4, q3⟩
theorem ps_daug {op : Operator} {rd : V → V → Hp → VK → Prop} (hu : X.A.units + 1 < cLine) (ho : PE X o td) (hi : PE X i ty) (hv : PE X value tv) (hop : InOp X op rd)
    (ha : ∀ ov iv new, augStore i ov iv new = (do holding [new, ov, iv] (setItem ov iv new); release [new, ov, iv] []; pure .next)) : PS X (.AugAssign (.Subscript o i tpos) op value pos) (sDAug td ty tv rd) := by
  intro pins s σ H D I h
  refine wpAny_AugAssign_SubscriptAny (thn (ho pins s σ H _ I h) fun u s1 ⟨x, H1, I1, rx, q1⟩ => thn (hi pins s1 σ H1 _ I1 q1) fun iv s2 ⟨y, H2, I2, ry, a, v, ex, g, q2⟩ => ?_) ha
  subst ex
  obtain rfl : u = Value.ref a := rx
  refine d_getItem hu I2 g ry fun w' s3 I3 rw' => thn (hv pins s3 σ H2 _ I3 q2) fun w2 s4 ⟨y2, H3, I4, ry2, q3⟩ => thn (hop pins s4 σ H3 v y2 w' w2 _ I4 rw' ry2 q3) fun w3 s5 ⟨z, H4, I5, rz, H5, g5, q4⟩ => ?_
  exact d_setItem hu I5 g5 ry rz fun s6 I6 => ⟨σ, H5, I6, q4⟩
theorem ps_ddel (ho : PE X o td) (hi : PE X i ty) : PS X (.Delete [.Subscript o i tpos] pos) (sDDel td ty) := by
  intro pins s σ H D I h
  refine wpAny_Delete (wpAny_deleteEach_cons (wpAny_delete_Subscript (thn (ho pins s σ H _ I h) fun u s1 ⟨x, H1, I1, rx, q1⟩ => thn (hi pins s1 σ H1 _ I1 q1) fun iv s2 ⟨y, H2, I2, ry, a, kvs, k, ex, e, ey, l, q2⟩ => ?_)))
  subst ex ey
  obtain rfl : u = Value.ref a := rx
  exact d_delItem I2 e ry l fun s3 I3 => wpAny_deleteEach_nil ⟨σ, _, I3, q2⟩
end


/-! ### displays -/
theorem dk_empty {P : Program} {w : World} {H : Hp} (h : Heap) (hb : sysModules < h.objs.size) : ObjOk P w H (h.push { cls := .type "dict", data := .dict #[] }) h.objs.size (.dK []) :=
  ⟨Nat.zero_le _, beq_eq_false_iff_ne.mpr (Ne.symm (Nat.ne_of_lt hb)), [], .nil, Heap.DictOf.new h⟩
theorem dt_empty {P : Program} {w : World} {H : Hp} (h : Heap) (hb : sysModules < h.objs.size) : ObjOk P w H (h.push { cls := .type "dict", data := .dict #[] }) h.objs.size (.dT []) :=
  ⟨Nat.zero_le _, beq_eq_false_iff_ne.mpr (Ne.symm (Nat.ne_of_lt hb)), [], .nil, _, #[], 0, Heap.get?_push_size _ rfl, ⟨rfl, rfl, rfl⟩, rfl, rfl, List.nodup_nil⟩
/-- {}, to be a dict of the kind that is wanted -/
def tDNewK : TE := fun _ H Q => ∀ p, H p = none → Q (.ref p) (upd H p (.dK []))
def tDNewT : TE := fun _ H Q => ∀ p, H p = none → Q (.ref p) (upd H p (.dT []))
section
variable {X : Cx} {pos : Pos}
theorem pe_dnewK : PE X (.Dict [] [] pos) tDNewK := fun pins s σ H Q I h =>
  wpAny_Dict_empty ⟨.ref s.heap.objs.size, _, I.laid (a := s.heap.objs.size) (o := .dK []) (t' := s.toks) (fun _ _ q => Heap.get?_push_of_some _ q) (Nat.le_refl _) (dk_empty s.heap I.big), rfl, h _ (I.hok.fresh (Nat.le_refl _))⟩
theorem pe_dnewT : PE X (.Dict [] [] pos) tDNewT := fun pins s σ H Q I h =>
  wpAny_Dict_empty ⟨.ref s.heap.objs.size, _, I.laid (a := s.heap.objs.size) (o := .dT []) (t' := s.toks) (fun _ _ q => Heap.get?_push_of_some _ q) (Nat.le_refl _) (dt_empty s.heap I.big), rfl, h _ (I.hok.fresh (Nat.le_refl _))⟩
end

/-- the pairs of a display, from the left -/
def tPairs : List (TE × TE) → St → Hp → (List (V × V) → Hp → Prop) → Prop
  | [], _, H, Q => Q [] H
  | (tk, tv) :: r, σ, H, Q => tk σ H fun x H1 => tv σ H1 fun y H2 => tPairs r σ H2 fun ps H3 => Q ((x, y) :: ps) H3
abbrev VV : List (V × V) → List (Value × Value) → Prop := Paired fun p q => RelV p.1 q.1 ∧ RelV p.2 q.2
def PPs (X : Cx) (pos : Pos) (keys : List (Option Expr)) (values : List Expr) (trs : List (TE × TE)) : Prop :=
  ∀ (pins : List (Addr × Obj)) (s : Shared) (σ : St) (H : Hp) (Q : List (V × V) → Hp → Prop), Inv X pins σ H s → tPairs trs σ H Q →
    wpAny (model X.prog X.w) X.A (evalPairs (pairTrees keys values X.env pos)) (fun vs s' => ∃ ps H', Inv X pins σ H' s' ∧ VV ps vs ∧ Q ps H') X.xe s
theorem pps_nil {X : Cx} {pos : Pos} : PPs X pos [] [] [] := fun pins s σ H Q I h => pairTrees_nil_walk ⟨[], H, I, .nil, h⟩
theorem pps_cons {X : Cx} {pos : Pos} {k v : Expr} {ks : List (Option Expr)} {vs : List Expr} {tk tv : TE} {trs : List (TE × TE)} (hk : PE X k tk) (hv : PE X v tv) (hr : PPs X pos ks vs trs) :
    PPs X pos (some k :: ks) (v :: vs) ((tk, tv) :: trs) := fun pins s σ H Q I h =>
  pairTrees_cons_walk (thn (hk pins s σ H _ I h) fun u s1 ⟨x, H1, I1, rx, q1⟩ => thn (hv pins s1 σ H1 _ I1 q1) fun w2 s2 ⟨y, H2, I2, ry, q2⟩ =>
    thn (hr pins s2 σ H2 _ I2 q2) fun ws s3 ⟨ps, H3, I3, rel, q3⟩ => ⟨(x, y) :: ps, H3, I3, .cons ⟨rx, ry⟩ rel, q3⟩)

def mergeK (kvs more : List (Key × V)) : List (Key × V) := more.foldl (fun acc kv => putK acc kv.1 kv.2) kvs
theorem KV.merge : ∀ {more : List (Key × V)} {rs : List (Key × Value)} {kvs : List (Key × V)} {vs : List (Key × Value)}, KV more rs → KV kvs vs → KV (mergeK kvs more) (merged vs rs) := by
  intro more rs kvs vs r
  unfold KV at r
  induction r generalizing kvs vs with
  | nil => intro q; exact q
  | @cons p q ps qs h t ih =>
    intro r0
    have e : KV (putK kvs p.1 p.2) (stored vs q.1 q.2) := by
      have := r0.put p.1 h.2
      rw [← h.1]; exact this
    exact ih e
theorem length_mergeK : ∀ (more kvs : List (Key × V)), (mergeK kvs more).length ≤ kvs.length + more.length
  | [], kvs => by show kvs.length ≤ kvs.length + 0; omega
  | p :: r, kvs => by
    have h1 := length_mergeK r (putK kvs p.1 p.2)
    have h2 := length_putK kvs p.1 p.2
    show (mergeK (putK kvs p.1 p.2) r).length ≤ _
    rw [List.length_cons]; omega
theorem carries_of {P : Program} {w : World} : ∀ {kvs : List (Key × V)} {ws : List (Value × Value)}, VV (kvs.map fun kv => (kV kv.1, kv.2)) ws → ∃ rs, Carries (mixKind P w) ws rs ∧ KV kvs rs
  | [], _, r => by rw [List.map_nil] at r; cases r; exact ⟨[], True.intro, .nil⟩
  | p :: kvs, _, r => by
    rw [List.map_cons] at r
    cases r with
    | @cons a b as bs h t =>
      obtain ⟨rs, c, q⟩ := carries_of (P := P) (w := w) t
      obtain ⟨b1, b2⟩ := b
      exact ⟨(p.1, b2) :: rs, ⟨kV_is h.1, rfl, c⟩, .cons ⟨rfl, h.2⟩ q⟩
/-- {k: v, ..} with keys ints and texts; the new dict stands empty while the pairs are made -/
def tDisp (trs : List (TE × TE)) : TE := fun σ H Q => ∀ p, H p = none → tPairs trs σ (upd H p (.dK [])) fun ps H2 => H2 p = some (.dK []) ∧ ∃ kvs : List (Key × V), ps = kvs.map (fun kv => (kV kv.1, kv.2)) ∧ kvs.length ≤ 15 ∧ Q (.ref p) (upd H2 p (.dK (mergeK [] kvs)))
theorem pe_disp {X : Cx} {pos : Pos} {keys : List (Option Expr)} {values : List Expr} {trs : List (TE × TE)} (h : PPs X pos keys values trs) (hall : keys.all (·.isSome) = true) (hl : keys.length = values.length) (h0 : keys ≠ [])
    (h15 : keys.length ≤ 15) : PE X (.Dict keys values pos) (tDisp trs) := by
  intro pins s σ H Q I q
  have hn := I.hok.fresh (Nat.le_refl s.heap.objs.size)
  have I1 := I.laid (a := s.heap.objs.size) (o := .dK []) (h' := s.heap.push { cls := .type "dict", data := .dict #[] }) (t' := s.toks) (fun _ _ q => Heap.get?_push_of_some _ q) (Nat.le_refl _) (dk_empty s.heap I.big)
  refine wpAny_Dict_walk (knd := mixKind X.prog X.w) hall hl h0 h15 (thn (h pins _ σ _ _ I1 (q _ hn)) fun ws s2 ⟨ps, H2, I2, rel, e, kvs, ep, lk, q2⟩ => ?_)
  subst ep
  obtain ⟨rs, c, rk⟩ := carries_of (P := X.prog) (w := X.w) rel
  obtain ⟨z, hd, vs0, r0, dd⟩ := dk_of I2.hok e
  cases r0
  refine ⟨rs, c, dd, fun h' dd' hs => ⟨.ref s.heap.objs.size, _, ?_, rfl, q2⟩⟩
  have hz : (mergeK [] kvs).length ≤ sizeLine := by
    have h1 := length_mergeK kvs []
    rw [List.length_nil] at h1
    rw [sizeLine_eq]; omega
  have he : ∃ q, h'.get? s.heap.objs.size = some q := let ⟨q, _, _, hq, _⟩ := dd'; ⟨q, hq⟩
  exact d_write I2 (by rw [e]; exact True.intro) hs he (dk_new hz hd (rk.merge .nil) dd')


/-! ### methods -/
/-- a method call o.m(e) of a built-in, with one argument: what must be seen of the text -/
structure M1 (X : Cx) (o : Expr) (m : Str) (apos : Pos) (e : Expr) (cpos : Pos) : Prop where
  base : attributeBase o m X.env (eval o X.env) = eval o X.env
  few : ((backTo cpos (starEach [e] X.env)).all (fun x => !x.1) && (backToKw cpos (keywordEach [] X.env)).all (fun x => x.1.isSome)
    && decide (([e] : List Expr).length + ([] : List Keyword).length + (if ([] : List Keyword).isEmpty then 0 else 1) < 30)) = true
  line : (apos.endLine == cpos.line) = true
  trees : backTo cpos (starEach [e] X.env) = [(false, eval e X.env)]
structure M2 (X : Cx) (o : Expr) (m : Str) (apos : Pos) (e f : Expr) (cpos : Pos) : Prop where
  base : attributeBase o m X.env (eval o X.env) = eval o X.env
  few : ((backTo cpos (starEach [e, f] X.env)).all (fun x => !x.1) && (backToKw cpos (keywordEach [] X.env)).all (fun x => x.1.isSome)
    && decide (([e, f] : List Expr).length + ([] : List Keyword).length + (if ([] : List Keyword).isEmpty then 0 else 1) < 30)) = true
  line : (apos.endLine == cpos.line) = true
  trees : backTo cpos (starEach [e, f] X.env) = [(false, eval e X.env), (false, eval f X.env)]

/-- a is a dict, whatever its keys -/
def IsD (H : Hp) (a : Addr) : Prop := (∃ kvs, Rd H a (.dK kvs)) ∨ ∃ kvs, Rd H a (.dT kvs)
theorem isD_at {X : Cx} {pins : List (Addr × Obj)} {σ : St} {H : Hp} {s : Shared} {a : Addr} (I : Inv X pins σ H s) (d : IsD H a) :
    s.TypeIs (.ref a) "dict" ∧ (∀ b, Value.ref a = .ref b → ∃ ob, s.heap.get? b = some ob ∧ ob.dict = none) ∧ (a == sysModules) = false := by
  rcases d with ⟨kvs, e⟩ | ⟨kvs, e⟩
  · obtain ⟨_, hd, vs, _, dd⟩ := dk_rd I.hok e
    refine ⟨dd.typeIs, fun b q => ?_, hd⟩
    cases q
    obtain ⟨ob, _, _, h1, h2, _⟩ := dd
    exact ⟨ob, h1, h2.2.1⟩
  · obtain ⟨_, hd, xs, _, dd⟩ := dt_rd I.hok e
    refine ⟨dd.typeIs, fun b q => ?_, hd⟩
    cases q
    obtain ⟨ob, _, _, h1, h2, _⟩ := dd
    exact ⟨ob, h1, h2.2.1⟩

section
variable {X : Cx} {pins : List (Addr × Obj)} {σ : St} {H : Hp} {s : Shared} {a : Addr} {y d : V} {u r : Value} {o : Option V} {A : Around} {E : Value → Shared → Prop}
/-- d.get(y) -/
theorem d_get1 {Q : Value → Shared → Prop} (hu : A.units + 1 < cLine) (I : Inv X pins σ H s) (g : DGet H a y o) (ry : RelV y u) (h : ∀ w' s', Inv X pins σ H s' → RelV (o.getD .non) w' → Q w' s') :
    wpAny (model X.prog X.w) A (call (.builtin "dict.get") [.ref a, u]) Q E s := by
  rcases g with ⟨kvs, k, e, ey, l⟩ | ⟨kvs, k, b, e, ey, eb, l⟩
  · subst ey
    obtain ⟨z, hd, vs, rel, dd⟩ := dk_rd I.hok e
    refine call_meetsIn PySem.F.slot_dict_get dd.typeIs PySem.F.entry_dict_get (PySem.F.args_dict_get_2 _ _) (meets_dict_get (mixKind X.prog X.w) a (kV_is ry) hd) ⟨_, dd.mapOf, h _ _ (I.tok _) ?_⟩
    rw [l]
    exact (rel.val k).getD rfl
  · subst ey
    cases (show u = Value.ref b from ry)
    obtain ⟨z, hd, xs, rel, dd⟩ := dt_rd I.hok e
    refine call_meetsIn PySem.F.slot_dict_get dd.typeIs PySem.F.entry_dict_get (PySem.F.args_dict_get_2 _ _) (meetsH_dict_get (tupleKind (mixKind X.prog X.w)) a b hd) ⟨tupleKind_room_in1 hu, k, xs, key_of I.hok eb, dd, h _ _ (I.tok _) ?_⟩
    rw [l]
    exact (rel.val k).getD rfl
/-- d.get(y, x) -/
theorem d_get2 {Q : Value → Shared → Prop} (hu : A.units + 1 < cLine) (I : Inv X pins σ H s) (g : DGet H a y o) (ry : RelV y u) (rd : RelV d r) (h : ∀ w' s', Inv X pins σ H s' → RelV (o.getD d) w' → Q w' s') :
    wpAny (model X.prog X.w) A (call (.builtin "dict.get") [.ref a, u, r]) Q E s := by
  rcases g with ⟨kvs, k, e, ey, l⟩ | ⟨kvs, k, b, e, ey, eb, l⟩
  · subst ey
    obtain ⟨z, hd, vs, rel, dd⟩ := dk_rd I.hok e
    refine call_meetsIn PySem.F.slot_dict_get dd.typeIs PySem.F.entry_dict_get (PySem.F.args_dict_get_3 _ _ _) (meets_dict_get_default (mixKind X.prog X.w) a (kV_is ry) hd r) ⟨_, dd.mapOf, h _ _ (I.tok _) ?_⟩
    rw [l]
    exact (rel.val k).getD rd
  · subst ey
    cases (show u = Value.ref b from ry)
    obtain ⟨z, hd, xs, rel, dd⟩ := dt_rd I.hok e
    refine call_meetsIn PySem.F.slot_dict_get dd.typeIs PySem.F.entry_dict_get (PySem.F.args_dict_get_3 _ _ _) (meetsH_dict_get_default (tupleKind (mixKind X.prog X.w)) a b hd r) ⟨tupleKind_room_in1 hu, k, xs, key_of I.hok eb, dd, h _ _ (I.tok _) ?_⟩
    rw [l]
    exact (rel.val k).getD rd
end

def tDGet1 (td ty : TE) : TE := fun σ H Q => td σ H fun x H1 => ∃ a, x = .ref a ∧ IsD H1 a ∧ ty σ H1 fun y H2 => ∃ o, DGet H2 a y o ∧ Q (o.getD .non) H2
def tDGet2 (td ty tx : TE) : TE := fun σ H Q => td σ H fun x H1 => ∃ a, x = .ref a ∧ IsD H1 a ∧ ty σ H1 fun y H2 => tx σ H2 fun z H3 => ∃ o, DGet H3 a y o ∧ Q (o.getD z) H3
/-- d.pop(k): there; d.pop(k, x): there or not -/
def tDPop1 (td ty : TE) : TE := fun σ H Q => td σ H fun x H1 => ∃ a, x = .ref a ∧ IsD H1 a ∧ ty σ H1 fun y H2 => ∃ kvs k v, H2 a = some (.dK kvs) ∧ y = kV k ∧ valV kvs k = some v ∧ Q v (upd H2 a (.dK (dropK kvs k)))
def tDPop2 (td ty tx : TE) : TE := fun σ H Q => td σ H fun x H1 => ∃ a, x = .ref a ∧ IsD H1 a ∧ ty σ H1 fun y H2 => tx σ H2 fun z H3 => ∃ kvs k, H3 a = some (.dK kvs) ∧ y = kV k ∧
  (∀ v, valV kvs k = some v → Q v (upd H3 a (.dK (dropK kvs k)))) ∧ (valV kvs k = none → Q z H3)
section
variable {X : Cx} {o e f : Expr} {apos cpos : Pos} {td ty tx : TE}
theorem pe_dget1 (hu : X.A.units + 1 < cLine) (ho : PE X o td) (he : PE X e ty) (m : M1 X o "get" apos e cpos) : PE X (.Call (.Attribute o "get" apos) [e] [] cpos) (tDGet1 td ty) := by
  intro pins s σ H Q I h
  refine wpAny_Call_method m.base m.few m.line PySem.F.plainAttrs_dict PySem.F.slot_dict_get PySem.F.type_dict_get (thn (ho pins s σ H _ I h) fun u s1 ⟨x, H1, I1, rx, a, ex, d, q1⟩ => ?_)
  subst ex
  obtain rfl : u = Value.ref a := rx
  obtain ⟨t1, t2, _⟩ := isD_at I1 d
  refine ⟨t1, t2, ?_⟩
  rw [m.trees]
  refine Calls.callWith_builtin rfl (Calls.evalArgs_plain (Calls.spliced_cons (thn (he pins s1 σ H1 _ I1 q1) fun iv s2 ⟨y, H2, I2, ry, ov, g, q2⟩ => Calls.spliced_nil ?_)))
  exact d_get1 hu I2 g ry fun w' s3 I3 rw' => ⟨_, H2, I3, rw', q2⟩
theorem pe_dget2 (hu : X.A.units + 1 < cLine) (ho : PE X o td) (he : PE X e ty) (hf : PE X f tx) (m : M2 X o "get" apos e f cpos) : PE X (.Call (.Attribute o "get" apos) [e, f] [] cpos) (tDGet2 td ty tx) := by
  intro pins s σ H Q I h
  refine wpAny_Call_method m.base m.few m.line PySem.F.plainAttrs_dict PySem.F.slot_dict_get PySem.F.type_dict_get (thn (ho pins s σ H _ I h) fun u s1 ⟨x, H1, I1, rx, a, ex, d, q1⟩ => ?_)
  subst ex
  obtain rfl : u = Value.ref a := rx
  obtain ⟨t1, t2, _⟩ := isD_at I1 d
  refine ⟨t1, t2, ?_⟩
  rw [m.trees]
  refine Calls.callWith_builtin rfl (Calls.evalArgs_plain (Calls.spliced_cons (thn (he pins s1 σ H1 _ I1 q1) fun iv s2 ⟨y, H2, I2, ry, q2⟩ =>
    Calls.spliced_cons (thn (hf pins s2 σ H2 _ I2 q2) fun fv s3 ⟨z, H3, I3, rz, ov, g, q3⟩ => Calls.spliced_nil ?_))))
  exact d_get2 hu I3 g ry rz fun w' s4 I4 rw' => ⟨_, H3, I4, rw', q3⟩
theorem pe_dpop1 (ho : PE X o td) (he : PE X e ty) (m : M1 X o "pop" apos e cpos) : PE X (.Call (.Attribute o "pop" apos) [e] [] cpos) (tDPop1 td ty) := by
  intro pins s σ H Q I h
  refine wpAny_Call_method m.base m.few m.line PySem.F.plainAttrs_dict PySem.F.slot_dict_pop PySem.F.type_dict_pop (thn (ho pins s σ H _ I h) fun u s1 ⟨x, H1, I1, rx, a, ex, d, q1⟩ => ?_)
  subst ex
  obtain rfl : u = Value.ref a := rx
  obtain ⟨t1, t2, _⟩ := isD_at I1 d
  refine ⟨t1, t2, ?_⟩
  rw [m.trees]
  refine Calls.callWith_builtin rfl (Calls.evalArgs_plain (Calls.spliced_cons (thn (he pins s1 σ H1 _ I1 q1) fun iv s2 ⟨y, H2, I2, ry, kvs, k, v, ea, ey, l, q2⟩ => Calls.spliced_nil ?_)))
  subst ey
  exact d_pop I2 ea ry l (.inl rfl) fun w' s3 I3 rw' => ⟨v, _, I3, rw', q2⟩
theorem pe_dpop2 (ho : PE X o td) (he : PE X e ty) (hf : PE X f tx) (m : M2 X o "pop" apos e f cpos) : PE X (.Call (.Attribute o "pop" apos) [e, f] [] cpos) (tDPop2 td ty tx) := by
  intro pins s σ H Q I h
  refine wpAny_Call_method m.base m.few m.line PySem.F.plainAttrs_dict PySem.F.slot_dict_pop PySem.F.type_dict_pop (thn (ho pins s σ H _ I h) fun u s1 ⟨x, H1, I1, rx, a, ex, d, q1⟩ => ?_)
  subst ex
  obtain rfl : u = Value.ref a := rx
  obtain ⟨t1, t2, _⟩ := isD_at I1 d
  refine ⟨t1, t2, ?_⟩
  rw [m.trees]
  refine Calls.callWith_builtin rfl (Calls.evalArgs_plain (Calls.spliced_cons (thn (he pins s1 σ H1 _ I1 q1) fun iv s2 ⟨y, H2, I2, ry, q2⟩ =>
    Calls.spliced_cons (thn (hf pins s2 σ H2 _ I2 q2) fun fv s3 ⟨z, H3, I3, rz, kvs, k, ea, ey, q3, q4⟩ => Calls.spliced_nil ?_))))
  subst ey
  cases l : valV kvs k with
  | some v => exact d_pop I3 ea ry l (.inr ⟨fv, rfl⟩) fun w' s4 I4 rw' => ⟨v, _, I4, rw', q3 v l⟩
  | none => exact d_popD I3 ea ry l fun s4 I4 => ⟨z, H3, I4, rz, q4 l⟩
end

/-! ### dict(d): a copy -/
section
variable {X : Cx} {pins : List (Addr × Obj)} {σ : St} {H : Hp} {s : Shared} {a : Addr} {kvs : List (Key × V)} {A : Around} {E : Value → Shared → Prop}
theorem d_copyOf {Q : Value → Shared → Prop} (I : Inv X pins σ H s) (e : Rd H a (.dK kvs)) (h : ∀ p s', H p = none → Inv X pins σ (upd H p (.dK kvs)) s' → Q (.ref p) s') : wpAny (model X.prog X.w) A (call (.type "dict") [.ref a]) Q E s := by
  obtain ⟨z, hd, vs, rel, dd⟩ := dk_rd I.hok e
  refine kt_call_dict hd dd (by rw [← rel.length]; exact z) fun h' dd' hs => ?_
  refine h _ _ (I.hok.fresh (Nat.le_refl _)) (I.laid (a := s.heap.objs.size) (o := .dK kvs) (t' := s.toks) (fun b q hq => ?_) (Nat.le_refl _) (dk_new z (beq_eq_false_iff_ne.mpr (Ne.symm (Nat.ne_of_lt I.big))) rel dd'))
  exact (hs.2 b (Nat.ne_of_lt (Heap.lt_size hq))).trans (Heap.get?_push_of_some _ hq)
end


section
variable {X : Cx} {pins : List (Addr × Obj)} {σ : St} {H : Hp} {s : Shared} {a : Addr} {y : V} {u : Value} {A : Around} {E : Value → Shared → Prop}
/-- d[y], not there: a KeyError -/
theorem d_missing {Q : Value → Shared → Prop} (hu : A.units + 1 < cLine) (hh : A.handled = none) (I : Inv X pins σ H s) (g : DGet H a y none) (ry : RelV y u)
    (h : ∀ h' e t', Heap.NewExc s.heap h' e "KeyError" → E (.ref e) { s with heap := h', toks := t' }) : wpAny (model X.prog X.w) A (getItem (.ref a) u) Q E s := by
  rcases g with ⟨kvs, k, e, ey, l⟩ | ⟨kvs, k, b, e, ey, eb, l⟩
  · subst ey
    obtain ⟨z, hd, vs, rel, dd⟩ := dk_rd I.hok e
    have hn : valueAt vs k = none := RelO.none_of (by rw [l]; exact rel.val k)
    exact wpAny_getItem_missing_of (kV_is ry) hd hh dd.mapOf hn fun h' ex ne => h h' ex _ ne
  · subst ey
    cases (show u = Value.ref b from ry)
    obtain ⟨z, hd, xs, rel, dd⟩ := dt_rd I.hok e
    have hn : (atKey xs k).map (·.2) = none := RelO.none_of (by rw [l]; exact rel.val k)
    exact wpAny_getItem_missing_heap (tupleKind_room_in1 hu) (key_of I.hok eb) hd hh dd (Option.map_eq_none_iff.mp hn) fun h' ex ne => h h' ex _ ne
end
end L2


set_option Elab.async false
set_option linter.all false
set_option maxRecDepth 100000
set_option maxHeartbeats 4000000
namespace L2
open PySem PySem.Spec PyProof.Rows

/-! ### a list or dict that is never written again -/
def Fz : HO → Prop
  | .lst _ => True
  | .dK _ => True
  | _ => False
section
variable {X : Cx} {pins : List (Addr × Obj)} {σ : St} {H : Hp} {s : Shared} {p : Addr} {u : HO}
theorem un_frz {fs ex : List Addr} {h : Heap} {o : Obj} (e : H p = some u) (f : Fz u) : Un fs ex H (upd H p (.frz o u)) h h where
  keep := fun b ob q _ _ _ => q
  slot := fun b ob q _ _ _ => ⟨ob.slots, q⟩
  free := fun b ob _ n _ => by rw [upd_ne (Ne.symm (ne_of_none e n))]; exact n
  there := fun b ob q _ => ⟨ob, q⟩
  tups := fun b xs q => by
    have : b ≠ p := fun z => by subst z; rw [e] at q; cases q; exact f
    rw [upd_ne this]; exact q
  frzs := fun b ob v q => by
    have : b ≠ p := fun z => by subst z; rw [e] at q; cases q; exact f
    rw [upd_ne this]; exact q
  tbls := fun b ps q => by
    have : b ≠ p := fun z => by subst z; rw [e] at q; cases q; exact f
    exact ⟨#[], by rw [upd_ne this, q]; simp⟩
theorem ObjOk.anyH {P : Program} {w : World} {H H' : Hp} {h : Heap} {a : Addr} (f : Fz u) (x : ObjOk P w H h a u) : ObjOk P w H' h a u := by
  cases u with
  | lst xs => exact x
  | dK kvs => exact x
  | _ => exact f.elim
theorem ObjOk.obj {P : Program} {w : World} {H : Hp} {h : Heap} {a : Addr} (f : Fz u) (x : ObjOk P w H h a u) : ∃ o, h.get? a = some o := by
  cases u with
  | lst xs => obtain ⟨_, _, _, _, e⟩ := x; exact ⟨_, e⟩
  | dK kvs => obtain ⟨_, _, _, _, o, _, _, e, _⟩ := x; exact ⟨o, e⟩
  | _ => exact f.elim
theorem Inv.freeze (I : Inv X pins σ H s) (e : H p = some u) (f : Fz u) : ∃ o, Inv X pins σ (upd H p (.frz o u)) s := by
  obtain ⟨o, ho⟩ := (I.hok p u e).obj f
  refine ⟨o, I.un (h' := s.heap) (t' := s.toks) (un_frz e f) fun b v q => ?_⟩
  by_cases hb : b = p
  · subst hb
    rw [upd_same] at q
    cases q
    exact ⟨ho, (I.hok b u e).anyH f⟩
  · rw [upd_ne hb] at q
    refine (I.hok b v q).stay (fun _ _ _ q => q) (fun c r => ?_) fun c xs r => ?_
    · have : c ≠ p := fun z => by subst z; rw [e] at r; cases r; exact f
      rw [upd_ne this]; exact r
    · have : c ≠ p := fun z => by subst z; rw [e] at r; cases r; exact f
      rw [upd_ne this]; exact r
/-- a value that is a list or dict just made: from then on it stays as it is -/
def tFrz (t : TE) : TE := fun σ H Q => t σ H fun v H1 => ∃ p u, v = .ref p ∧ H1 p = some u ∧ Fz u ∧ ∀ o, Q v (upd H1 p (.frz o u))
theorem pe_frz {e : Expr} {t : TE} (h : PE X e t) : PE X e (tFrz t) := by
  intro pins s σ H Q I hq
  refine thn (h pins s σ H _ I hq) fun v s1 ⟨x, H1, I1, r1, p, u, e1, e2, f, q⟩ => ?_
  obtain ⟨o, I2⟩ := I1.freeze e2 f
  exact ⟨x, _, I2, r1, q o⟩

/-- a plain list that was not tracked is tracked -/
theorem Inv.track {D : Addr} {ys : List V} {us : List Value} {n : Nat} (I : Inv X pins σ H s) (e : s.heap.get? D = some { cls := .type "list", data := .seq us.toArray n }) (hn : H D = none) (hv : Vals ys us) (hz : ys.length ≤ sizeLine)
    (h0 : X.s₀.heap.objs.size ≤ D) (hL : D ≠ X.env.locals) (hc : ∀ x c, X.env.cells.lookup x = some c → c ≠ D) (hp : ∀ p ∈ X.pn ++ pins, p.1 ≠ D) : Inv X pins σ (upd H D (.lst ys)) s := by
  have ne : ∀ b u, H b = some u → b ≠ D := fun b u q => ne_of_none q hn
  refine I.step (h' := s.heap) (g' := s.gens) (d' := s.drawn) (t' := s.toks) (ch := [D]) (fun b hb => ?_) (fun b o _ _ _ q _ => q) (fun b o _ _ _ q _ => ⟨o.slots, q⟩) (fun b o hb q n => ?_) (fun b o _ q => ⟨o, q⟩)
    (fun b xs q => by rw [upd_ne (ne b _ q)]; exact q) (fun b o u q => by rw [upd_ne (ne b _ q)]; exact q) (fun b ps q => ⟨#[], by rw [upd_ne (ne b _ q), q]; simp⟩) (fun m hm => hm) (fun b u q => ?_) I.bare
  · have e : b = D := by simpa using hb
    subst e
    exact ⟨.inr h0, hL, hc, hp⟩
  · rw [upd_ne (fun z => hb (by simp [z]))]; exact n
  · by_cases hb : b = D
    · subst hb
      rw [upd_same] at q
      cases q
      exact ⟨hz, us, n, hv, e⟩
    · rw [upd_ne hb] at q
      exact (I.hok b u q).stay (fun _ _ _ q => q) (fun c r => by rw [upd_ne (ne c _ r)]; exact r) fun c xs r => by rw [upd_ne (ne c _ r)]; exact r
end

/-! ### comprehensions -/
section
variable {prog : Program} {w : World} {A : Around} {E : Value → Shared → Prop} {R : Result → Shared → Prop} {s : Shared}
/-- the tests of a clause -/
abbrev testsOf (ifs : List Expr) (env : Env) : Sem Bool := forIn ifs true fun c r => if r = true then do let ok ← isTrue c env (eval c env); pure (ForInStep.yield ok) else pure (ForInStep.yield r)
theorem compLoop_own {elt target iter : Expr} {ifs : List Expr} {scope : Scope} {pos : Pos} {it acc : Value} {env : Env} (I : Nat → Shared → Prop)
    (turn : ∀ n s, I n s → wpAny (model prog w) A (pyNext it) (fun r s₁ => match r with
      | none => R (.ok .next) s₁
      | some v => wpAny (model prog w) A (letOwnedTupleGo target it v) (fun _ s₁' => wpAny (model prog w) A (assign target env v) (fun _ s₂ =>
          wpAny (model prog w) A (testsOf ifs env) (fun ok s₃ =>
            if ok = true then wpAny (model prog w) A (eval elt env) (fun x s₄ =>
              wpAny (model prog w) A (call (.builtin "list.append") [acc, x]) (fun _ s₅ => ∃ m, m < n ∧ I m s₅) (fun _ _ => False) s₄) (fun _ _ => False) s₃
            else ∃ m, m < n ∧ I m s₃) (fun _ _ => False) s₂) (fun _ _ => False) s₁') (fun _ _ => False) s₁) (fun _ _ => False) s)
    (n : Nat) (h : I n s) :
    codeAny (model prog w) A (.compLoop (.ListComp elt [⟨target, iter, ifs, 0⟩] scope pos) 0 it acc env) R s := by
  refine codeAny_loop rfl I (fun n s hI => ?_) n h
  show wpAny _ A ((compTurn (.ListComp elt [⟨target, iter, ifs, 0⟩] scope pos) 0 it acc env).onRaise (fun x => do noteFrame x env; theTreesLotGoes x)) _ _ s
  refine wpAny_noted ?_
  rw [compTurn_list]
  refine wpAny_bind (wpAny_standAt (wpAny_bind (wpAny_mono (turn n s hI) (fun r s₁ h₁ => ?_) fun _ _ h' => h'.elim)))
  cases r with
  | none => exact wpAny_pure h₁
  | some v =>
    refine wpAny_bind (wpAny_mono h₁ (fun _ s₁' h₁' => ?_) fun _ _ h' => h'.elim)
    refine wpAny_bind (wpAny_mono h₁' (fun _ s₂ h₂ => wpAny_bind (wpAny_mono h₂ (fun ok s₃ h₃ => ?_) fun _ _ h' => h'.elim)) fun _ _ h' => h'.elim)
    cases ok with
    | false => exact wpAny_pure ⟨rfl, h₃⟩
    | true =>
      exact wpAny_bind (wpAny_bind (wpAny_mono h₃ (fun x s₄ h₄ => wpAny_bind (wpAny_mono h₄ (fun _ s₅ h₅ => wpAny_pure (wpAny_pure ⟨rfl, h₅⟩)) fun _ _ h' => h'.elim)) fun _ _ h' => h'.elim))
end
theorem closure_some {scope : Scope} {env : Env} (h : ∀ x ∈ scope.names, x.2 = .free → ∃ c, env.cells.lookup x.1 = some c) :
    ∃ cl, closureFor scope env = pure cl ∧ (∀ n c, cl.lookup n = some c → env.cells.lookup n = some c) ∧ (∀ n, (n, NameKind.free) ∈ scope.names → ∃ c, cl.lookup n = some c) := by
  have key : ∀ (l : List (Str × NameKind)) (cs : List (Str × Addr)), (∀ x ∈ l, x.2 = .free → ∃ c, env.cells.lookup x.1 = some c) → (∀ n c, cs.lookup n = some c → env.cells.lookup n = some c) →
      ∃ cl : List (Str × Addr), (forIn l cs fun x r => match x with
        | (name, kind) => if (kind == NameKind.free) = true then do let a ← cellOf env name; pure (ForInStep.yield ((name, a) :: r)) else pure (ForInStep.yield r) : Sem (List (Str × Addr))) = pure cl ∧
        (∀ n c, cl.lookup n = some c → env.cells.lookup n = some c) ∧ (∀ n c, cs.lookup n = some c → ∃ c, cl.lookup n = some c) ∧ (∀ n, (n, NameKind.free) ∈ l → ∃ c, cl.lookup n = some c) := by
    intro l
    induction l with
    | nil => intro cs _ hc; exact ⟨cs, rfl, hc, fun n c e => ⟨c, e⟩, fun n hn => nomatch hn⟩
    | cons x l ih =>
      intro cs hl hc
      obtain ⟨name, kind⟩ := x
      by_cases hk : kind = .free
      · subst hk
        obtain ⟨c, e⟩ := hl (name, .free) List.mem_cons_self rfl
        obtain ⟨cl, h1, h2, h3, h4⟩ := ih ((name, c) :: cs) (fun y hy => hl y (List.mem_cons_of_mem _ hy)) (fun n d q => by
          rw [List.lookup_cons] at q
          cases hb : n == name with
          | true =>
            rw [hb] at q
            cases q
            rw [eq_of_beq hb]; exact e
          | false =>
            rw [hb] at q
            exact hc n d q)
        refine ⟨cl, ?_, h2, fun n d q => ?_, fun n hn => ?_⟩
        · rw [List.forIn_cons]
          simp only [beq_self_eq_true, if_true, cellOf, e, pure_bind]
          exact h1
        · cases hb : n == name with
          | true => exact h3 n c (by rw [List.lookup_cons, hb])
          | false => exact h3 n d (by rw [List.lookup_cons, hb]; exact q)
        · rcases List.mem_cons.mp hn with z | z
          · cases z
            exact h3 name c (by rw [List.lookup_cons]; simp)
          · exact h4 n z
      · obtain ⟨cl, h1, h2, h3, h4⟩ := ih cs (fun y hy => hl y (List.mem_cons_of_mem _ hy)) hc
        refine ⟨cl, ?_, h2, h3, fun n hn => ?_⟩
        · rw [List.forIn_cons]
          have : (kind == NameKind.free) = false := by simpa using hk
          simp only [this, Bool.false_eq_true, if_false, pure_bind]
          exact h1
        · rcases List.mem_cons.mp hn with z | z
          · cases z; exact absurd rfl hk
          · exact h4 n z
  obtain ⟨cl, h1, h2, _, h4⟩ := key scope.names [] h (fun n c e => by simp at e)
  refine ⟨cl, ?_, h2, h4⟩
  unfold closureFor
  simp only [bind_pure]
  exact h1
/-- a comprehension's names: what its clause binds, and those of the frame around it (they stand in the slots fr there) -/
theorem relabel_free {sc : Scope} {env : Env} {x : Str} : ∀ {names : List (Str × NameKind)}, (names.map fun (n, k) => if (k == NameKind.free && env.scope.kind == .function && env.kindOf n == some .cell) then (n, NameKind.cell) else (n, k)).lookup x = some .cell ∨
    (names.map fun (n, k) => if (k == NameKind.free && env.scope.kind == .function && env.kindOf n == some .cell) then (n, NameKind.cell) else (n, k)).lookup x = some .free → (∀ y ∈ names, y.2 ≠ .cell) → (x, NameKind.free) ∈ names
  | [], h, _ => by simp at h
  | (n, k) :: r, h, hc => by
    have ih := @relabel_free sc env x r
    by_cases hk : (k == NameKind.free && env.scope.kind == .function && env.kindOf n == some .cell) = true
    · simp only [List.map_cons, if_pos hk, List.lookup_cons] at h
      cases hx : x == n with
      | true =>
        have e := eq_of_beq hx
        subst e
        simp only [Bool.and_eq_true] at hk
        have := eq_of_beq hk.1.1
        subst this
        exact List.mem_cons_self
      | false =>
        rw [hx] at h
        exact List.mem_cons_of_mem _ (ih h fun y hy => hc y (List.mem_cons_of_mem _ hy))
    · simp only [List.map_cons, if_neg hk, List.lookup_cons] at h
      cases hx : x == n with
      | true =>
        rw [hx] at h
        have e := eq_of_beq hx
        subst e
        rcases h with h | h
        · cases h; exact absurd rfl (hc (x, .cell) List.mem_cons_self)
        · cases h; exact List.mem_cons_self
      | false =>
        rw [hx] at h
        exact List.mem_cons_of_mem _ (ih h fun y hy => hc y (List.mem_cons_of_mem _ hy))
theorem relabel_lookup_free {env : Env} {x : Str} : ∀ {names : List (Str × NameKind)}, names.lookup x = some .free →
    (names.map fun (n, k) => if (k == NameKind.free && env.scope.kind == .function && env.kindOf n == some .cell) then (n, NameKind.cell) else (n, k)).lookup x = some .cell ∨
    (names.map fun (n, k) => if (k == NameKind.free && env.scope.kind == .function && env.kindOf n == some .cell) then (n, NameKind.cell) else (n, k)).lookup x = some .free
  | [], h => by simp at h
  | (n, k) :: r, h => by
    have ih := @relabel_lookup_free env x r
    by_cases hk : (k == NameKind.free && env.scope.kind == .function && env.kindOf n == some .cell) = true
    · simp only [List.map_cons, if_pos hk, List.lookup_cons]
      cases hx : x == n with
      | true => exact .inl rfl
      | false => rw [List.lookup_cons, hx] at h; exact ih h
    · simp only [List.map_cons, if_neg hk, List.lookup_cons]
      cases hx : x == n with
      | true => rw [List.lookup_cons, hx] at h; exact .inr h
      | false => rw [List.lookup_cons, hx] at h; exact ih h
/-- the block's context -/
def blk (X : Cx) (sc : Scope) (N' : List Str) (cl : List (Str × Addr)) (C : Addr) (s : Shared) (H : Hp) (ex : List Addr) (pins : List (Addr × Obj)) : Cx :=
  { X with N := N', s₀ := s, H₀ := H, env := compEnvC sc cl C X.env, outer := X.stack, ex := ex, fn := fun _ => false, pn := X.pn ++ pins, xe := fun _ _ => False }
def lcN (X : Cx) (own : List Str) (fr : List Nat) : List Str := own ++ fr.map fun j => X.N.getD j Str.empty
def lcS (k : Nat) (fr : List Nat) (σ : St) : St := List.replicate k none ++ fr.map fun j => (σ[j]?).getD none
def frOk (N : List Str) (sc : Scope) (fr : List Nat) : Bool := fr.all fun j => match N[j]? with
  | some x => sc.names.lookup x == some .free
  | none => false
/-- what a comprehension's scope must be -/
structure LcOk (X : Cx) (sc : Scope) (own : List Str) (fr : List Nat) : Prop where
  kind : sc.kind = .function
  cell : ∀ y ∈ sc.names, y.2 ≠ .cell
  free : ∀ y ∈ sc.names, y.2 = .free → (X.env.kindOf y.1 = some .cell ∨ X.env.kindOf y.1 = some .free)
  names : ∀ y ∈ sc.names, y.2 = .local → sc.names.lookup y.1 = some .local
  fr : frOk X.N sc fr = true
/-- the tests of a clause, in the block -/
def PTs (X : Cx) (ifs : List Expr) (t : TT) : Prop :=
  ∀ (pins : List (Addr × Obj)) (s : Shared) (σ : St) (H : Hp) (Q : Bool → Hp → Prop), Inv X pins σ H s → t σ H Q → wpAny (model X.prog X.w) X.A (testsOf ifs X.env) (TP X pins σ Q) X.xe s
def tYes : TT := fun _ H Q => Q true H
theorem pts_nil {X : Cx} : PTs X [] tYes := fun _ _ _ H _ I h => wpAny_tests_nil ⟨H, I, h⟩
theorem pts_one {X : Cx} {c : Expr} {t : TT} (h : PT X c t) : PTs X [c] t := fun pins s σ H Q I q => wpAny_tests_one (h pins s σ H Q I q)

section
variable {X : Cx} {pins : List (Addr × Obj)} {σ : St} {H : Hp} {s : Shared} {sc : Scope} {own : List Str} {fr : List Nat} {cl : List (Str × Addr)} {fp : List Addr} {C D : Addr} {s1 : Shared}
theorem frOk_get {N : List Str} {sc : Scope} {fr : List Nat} (h : frOk N sc fr = true) {j : Nat} (hj : j ∈ fr) : ∃ x, N[j]? = some x ∧ sc.names.lookup x = some .free := by
  have q := List.all_eq_true.mp h j hj
  cases e : N[j]? with
  | none => simp [e] at q
  | some x =>
    simp only [e] at q
    exact ⟨x, rfl, eq_of_beq q⟩
theorem blk_ok (L : LcOk X sc own fr) (I : Inv X pins σ H s) (hf : ∀ b ∈ fp, FpOk X pins H b) (hb : ∀ b ∈ fp, b < s.heap.objs.size) (hC : s.heap.objs.size ≤ C)
    (c1 : ∀ n c, cl.lookup n = some c → X.env.cells.lookup n = some c) (c2 : ∀ n, (n, NameKind.free) ∈ sc.names → ∃ c, cl.lookup n = some c) : (blk X sc (lcN X own fr) cl C s H fp pins).Ok where
  mod := I.ok.mod
  kind := L.kind
  glob := I.ok.glob
  blt := I.ok.blt
  above := hC
  inj := fun x y c a b => I.ok.inj x y c (c1 _ _ a) (c1 _ _ b)
  has := fun x hx => c2 x (relabel_free (sc := sc) (env := X.env) hx L.cell)
  cab := fun x c z => absurd (show false = true from z) Bool.false_ne_true
  hd := I.ok.hd
  frames := I.ok.frames
  stk := .inl rfl
  exf := fun b z => ⟨Nat.ne_of_lt (Nat.lt_of_lt_of_le (hb b z) hC), fun x c e => (hf b z).2.2.2.2.1 x c (c1 _ _ e)⟩
  bs := I.bs
  bsz := Nat.le_trans I.ok.bsz I.sz
  noex := fun b o e z => by
    rcases (hf b z).2.2.2.1 with q | q
    · exact I.ok.noex b o e q
    · exact absurd (Nat.lt_of_lt_of_le (Heap.lt_size e) (Nat.le_trans I.ok.bsz q)) (Nat.lt_irrefl _)
  exfs := fun b z q => by
    rcases List.mem_cons.mp (I.stkSub b q) with e | e
    · exact (hf b z).2.1 e
    · exact (hf b z).2.2.1 e
  funs := I.stack
  frf := I.stkFree
theorem blk_inv (L : LcOk X sc own fr) (I : Inv X pins σ H s) (hf : ∀ b ∈ fp, FpOk X pins H b) (hb : ∀ b ∈ fp, b < s.heap.objs.size) (hC : s.heap.objs.size ≤ C)
    (c1 : ∀ n c, cl.lookup n = some c → X.env.cells.lookup n = some c) (c2 : ∀ n, (n, NameKind.free) ∈ sc.names → ∃ c, cl.lookup n = some c)
    {h1 : Heap} {tk : Nat} {m : Str → Option Value} (hn : h1.Ns C m) (k : ∀ b o, s.heap.get? b = some o → h1.get? b = some o) :
    Inv (blk X sc (lcN X own fr) cl C s H fp pins) [] (lcS own.length fr σ) H { s with heap := h1, toks := tk } := by
  have ok := blk_ok L I hf hb hC c1 c2
  refine ⟨ok, rfl, I.bare, Un.kept k, ⟨m, hn, fun i x v e1 e2 e3 => ?_⟩, fun x c e => ?_, I.hok.fresh hC, fun x c e => I.freeC x c (c1 _ _ e), fun p hp => ?_, I.hok.kept k, ?_⟩
  · -- one of the names around
    have hi : ¬ i < own.length := fun hi => by
      unfold lcS at e2
      rw [List.getElem?_append_left (by simpa using hi), List.getElem?_replicate] at e2
      split at e2 <;> cases e2
    have e1' : (lcN X own fr)[i]? = some x := e1
    unfold lcN at e1'
    unfold lcS at e2
    rw [List.getElem?_append_right (by omega), List.getElem?_map] at e1'
    rw [List.getElem?_append_right (by simpa using hi), List.getElem?_map, List.length_replicate] at e2
    cases q : fr[i - own.length]? with
    | none => rw [q] at e1'; cases e1'
    | some j =>
      rw [q] at e1' e2
      obtain ⟨y, hy, hyf⟩ := frOk_get L.fr (List.mem_of_getElem? q)
      have ex : y = x := by
        have := Option.some.inj e1'
        rw [← this]
        simp [List.getD, hy]
      subst ex
      have ev : σ[j]? = some (some v) := by
        have z : (σ[j]?).getD none = some v := Option.some.inj e2
        cases w : σ[j]? with
        | none => rw [w] at z; cases z
        | some o => rw [w] at z; exact congrArg some z
      have hm : (y, NameKind.free) ∈ sc.names := PySem.mem_of_lookup hyf
      have hk := L.free _ hm rfl
      have vis : Vis X.env.scope y := by
        rcases hk with z | z
        · exact .inr (.inl z)
        · exact .inr (.inr z)
      obtain ⟨m0, hn0, hl⟩ := I.loc
      obtain ⟨u, r, l⟩ := hl j y v hy ev vis
      refine ⟨u, r, .inr ⟨?_, ?_⟩⟩
      · exact relabel_lookup_free (env := X.env) hyf
      · obtain ⟨c, hc⟩ := c2 y hm
        rcases l with ⟨z, _⟩ | ⟨_, c', hc', hcell⟩
        · rcases hk with q | q
          · exact absurd (show X.env.kindOf y = some .local from z) (by rw [q]; decide)
          · exact absurd (show X.env.kindOf y = some .local from z) (by rw [q]; decide)
        · have : c = c' := Option.some.inj ((c1 _ _ hc).symm.trans hc')
          subst this
          obtain ⟨o, ho, hd⟩ := hcell
          exact ⟨c, hc, o, k _ _ ho, hd⟩
  · obtain ⟨v, o, ho, hd⟩ := I.cell x c (c1 _ _ e)
    exact ⟨v, o, k _ _ ho, hd⟩
  · have hp' : p ∈ X.pn ++ pins := by simpa [blk] using hp
    obtain ⟨a1, a2, a3, a4, a5⟩ := I.pin p hp'
    refine ⟨k _ _ a1, a2, Nat.ne_of_lt (Nat.lt_of_lt_of_le (Heap.lt_size a1) hC), fun q => ?_, a5⟩
    rcases List.mem_cons.mp (I.stkSub _ q) with e | e
    · exact a3 e
    · exact a4 e
  · show (lcS own.length fr σ).length = (lcN X own fr).length
    simp [lcS, lcN]
end
/-- one turn of a comprehension and its end: W by the turn, a measure, what was gathered, the block's names, the heap -/
abbrev LcW := Nat → Nat → List V → St → Hp → Prop
def lcStep (J : It) (g : TG) (tt : TT) (te : TE) (W : LcW) (Fin : List V → Hp → Prop) : Prop := ∀ i m ys τ H, W i m ys τ H →
  (J.stop i H ∧ Fin ys H) ∨ (J.go i H ∧ ys.length < sizeLine ∧ ∀ x H', J.yld i H x H' → g x τ H' fun τ2 H2 => tt τ2 H2 fun b H3 =>
    if b = true then te τ2 H3 fun y H4 => ∃ m', m' < m ∧ W (i + 1) m' (ys ++ [y]) τ2 H4 else ∃ m', m' < m ∧ W (i + 1) m' ys τ2 H3)
section
variable {X : Cx} {pins : List (Addr × Obj)} {σ : St} {H : Hp} {s : Shared} {sc : Scope} {own : List Str} {fr : List Nat} {cl : List (Str × Addr)} {fp : List Addr} {it : Addr} {J : It} {tn : Nat → Heap → Prop} {g : TG} {tt : TT} {te : TE} {W : LcW} {Fin : List V → Hp → Prop}
  {elt tg iter : Expr} {ifs : List Expr} {pos : Pos} {E : Value → Shared → Prop}
theorem lc_core {RR : Value → Addr → Result → Shared → Prop} (hc : X.calm = true) (L : LcOk X sc own fr) (hcl1 : ∀ n c, cl.lookup n = some c → X.env.cells.lookup n = some c) (hcl2 : ∀ n, (n, NameKind.free) ∈ sc.names → ∃ c, cl.lookup n = some c)
    (hg : ∀ C s H ex pl, PG (blk X sc (lcN X own fr) cl C s H ex pl) tg g) (ht : ∀ C s H ex pl, PTs (blk X sc (lcN X own fr) cl C s H ex pl) ifs tt) (he : ∀ C s H ex pl, PE (blk X sc (lcN X own fr) cl C s H ex pl) elt te)
    (I : Inv X pins σ H s) (T : Turn X.prog X.w X.K tg J fp it tn) (st : tn 0 s.heap) (hf : ∀ b ∈ fp, FpOk X pins H b) (w0 : ∃ m, W 0 m [] (lcS own.length fr σ) H) (turn : lcStep J g tt te W Fin)
    (hRR : ∀ (D C : Addr) (s' : Shared) (H' : Hp) (ys : List V) (us : List Value) (n : Nat) (m : Str → Option Value), Inv X pins σ H' s' → s'.heap.get? D = some { cls := .type "list", data := .seq us.toArray n } → Vals ys us → ys.length ≤ sizeLine → H' D = none → H' C = none →
      s.heap.objs.size ≤ D → s.heap.objs.size ≤ C → D ≠ C → s'.heap.Ns C m → Fin ys H' → RR (.ref D) C (.ok .next) s') :
    wpAny (model X.prog X.w) X.A (newList []) (fun acc s₃ => wpAny (model X.prog X.w) X.A (newFunctionEnv sc X.env.globals cl [] X.env.qual none .none (some X.env)) (fun cenv s₄ =>
      codeAny (model X.prog X.w) X.A (.compStart (.ListComp elt [⟨tg, iter, ifs, 0⟩] sc pos) 0 (.ref it) acc { cenv with scope := relabel sc X.env }) (RR acc cenv.locals) s₄) E s₃) E s := by
  refine wpAny_newObj_type (wpAny_newFunctionEnv L.cell (by intro y hy; simp at hy) (fun h₁ hns₁ hsb₁ => ?_) L.kind)
  dsimp only at hns₁ hsb₁ ⊢
  generalize hH2 : s.heap.push { cls := .type "list", dict := none, data := .seq ([] : List Value).toArray } = H2 at hns₁ hsb₁ ⊢
  have hCs : H2.objs.size = s.heap.objs.size + 1 := by rw [← hH2, Heap.size_push]
  have hD0 : s.heap.objs.size ≠ H2.objs.size := by rw [hCs]; exact Nat.ne_of_lt (Nat.lt_succ_self _)
  have hCle : s.heap.objs.size ≤ H2.objs.size := by rw [hCs]; exact Nat.le_succ _
  have below : ∀ b, b < s.heap.objs.size → b ≠ H2.objs.size ∧ b ≠ s.heap.objs.size := fun b hb => ⟨by rw [hCs]; exact Nat.ne_of_lt (Nat.lt_succ_of_lt hb), Nat.ne_of_lt hb⟩
  have old : ∀ b o, s.heap.get? b = some o → h₁.get? b = some o := fun b o e => hsb₁.extBut b o (below b (Heap.lt_size e)).1 (Heap.get?_push_of_some _ (hH2 ▸ Heap.get?_push_of_some _ e))
  have hacc : h₁.get? s.heap.objs.size = some { cls := .type "list", data := .seq ([] : List Value).toArray 0 } := hsb₁.extBut _ _ hD0 (Heap.get?_push_of_some _ (hH2 ▸ Heap.get?_push_size _ rfl))
  have hfb : ∀ b ∈ fp, b < s.heap.objs.size := fun b hb => by
    obtain ⟨o, e, _⟩ := T.obj 0 _ st b hb
    exact Heap.lt_size e
  have I1 : Inv (blk X sc (lcN X own fr) cl H2.objs.size s H fp pins) [] (lcS own.length fr σ) H { s with heap := h₁, toks := s.toks + ([] : List (Str × Value)).length } := blk_inv L I hf hfb hCle hcl1 hcl2 hns₁ old
  have st1 : tn 0 h₁ := T.keep 0 _ _ st fun b _ o e => old b o e
  generalize hY : blk X sc (lcN X own fr) cl H2.objs.size s H fp pins = Y at I1
  have hYp : Y.prog = X.prog := by rw [← hY]; rfl
  have hYw : Y.w = X.w := by rw [← hY]; rfl
  have hYK : Y.K = X.K := by rw [← hY]; rfl
  have hYA : Y.A = X.A := by rw [← hY]; rfl
  have hYc : Y.calm = true := by rw [← hY]; exact hc
  have hYe : Y.env = compEnvC sc cl H2.objs.size X.env := by rw [← hY]; rfl
  have hYx : Y.xe = fun _ _ => False := by rw [← hY]; rfl
  have hYpn : Y.pn = X.pn ++ pins := by rw [← hY]; rfl
  have hYs : Y.s₀ = s := by rw [← hY]; rfl
  have hYH : Y.H₀ = H := by rw [← hY]; rfl
  have hYex : Y.ex = fp := by rw [← hY]; rfl
  have hYfs : Y.fs = frs X.stack := by rw [← hY]; rfl
  have gY := hg H2.objs.size s H fp pins
  have tY := ht H2.objs.size s H fp pins
  have eY := he H2.objs.size s H fp pins
  rw [hY] at gY tY eY
  have D_pin : ∀ p ∈ Y.pn ++ ([] : List (Addr × Obj)), p.1 ≠ s.heap.objs.size := fun p hp => by
    rw [hYpn, List.append_nil] at hp
    exact (below _ (Heap.lt_size (I.pin p hp).1)).2
  have D_cell : ∀ x c, Y.env.cells.lookup x = some c → c ≠ s.heap.objs.size := fun x c e => by
    rw [hYe] at e
    obtain ⟨v, z⟩ := I.cell x c (hcl1 _ _ e)
    exact (below _ z.lt).2
  have D_loc : s.heap.objs.size ≠ Y.env.locals := by rw [hYe]; exact hD0
  have D_fs : s.heap.objs.size ∉ Y.fs := by
    rw [hYfs]
    intro z
    rcases List.mem_cons.mp (I.stkSub _ z) with e | e
    · exact absurd I.lt (by rw [← e]; exact Nat.lt_irrefl _)
    · exact I.nofs (Nat.le_refl _) e
  have fpY : ∀ {H' : Hp} (pl : List (Addr × Obj)), (∀ b ∈ fp, H' b = none) → (∀ p ∈ pl, p.1 = s.heap.objs.size) → ∀ b ∈ fp, FpOk Y pl H' b := fun {H'} pl hn hp b hb => by
    obtain ⟨_, f1, f2, f3, f4, f5⟩ := hf b hb
    refine ⟨hn b hb, by rw [hYe]; exact (below b (hfb b hb)).1, ?_, .inl (by rw [hYex]; exact hb), fun x c e => ?_, fun p q => ?_⟩
    · rw [hYfs]
      intro z
      rcases List.mem_cons.mp (I.stkSub _ z) with e | e
      · exact f1 e
      · exact f2 e
    · rw [hYe] at e
      exact f4 x c (hcl1 _ _ e)
    · rcases List.mem_append.mp q with z | z
      · rw [hYpn] at z
        exact f5 p z
      · rw [hp p z]
        exact Ne.symm (below b (hfb b hb)).2
  have loop : ∀ s₃ : Shared, s₃ = { s with heap := h₁, toks := s.toks + ([] : List (Str × Value)).length } →
      codeAny (model X.prog X.w) X.A (.compLoop (.ListComp elt [⟨tg, iter, ifs, 0⟩] sc pos) 0 (.ref it) (.ref s.heap.objs.size) (compEnvC sc cl H2.objs.size X.env)) (RR (.ref s.heap.objs.size) H2.objs.size) s₃ := by
    rintro s₃ rfl
    obtain ⟨m0, w0⟩ := w0
    refine compLoop_own (fun n s' => ∃ i ys τ H' us k, Inv Y [] τ H' s' ∧ tn i s'.heap ∧ (∀ b ∈ fp, H' b = none) ∧ H' s.heap.objs.size = none ∧ s'.heap.get? s.heap.objs.size = some { cls := .type "list", data := .seq us.toArray k } ∧ Vals ys us ∧ ys.length ≤ sizeLine ∧ W i n ys τ H') ?_ m0
      ⟨0, [], _, H, [], 0, I1, st1, fun b hb => (hf b hb).1, I.hok.fresh (Nat.le_refl _), hacc, .nil, Nat.zero_le _, w0⟩
    rintro n s' ⟨i, ys, τ, H', us, k, I', st', hn', hD', ha', hv', hz', w'⟩
    have Ip : Inv Y [(s.heap.objs.size, { cls := .type "list", data := .seq us.toArray k })] τ H' s' := I'.pins_of fun p hp => by
      have e : p = (s.heap.objs.size, { cls := .type "list", data := .seq us.toArray k }) := by simpa using hp
      subst e
      exact ⟨ha', hD', D_loc, D_fs, fun v z => nomatch (show Data.seq _ _ = Data.cell v from z)⟩
    have onlyD : ∀ p ∈ [((s.heap.objs.size, { cls := .type "list", data := .seq us.toArray k }) : Addr × Obj)], p.1 = s.heap.objs.size := fun p hp => by
      have e : p = (s.heap.objs.size, { cls := .type "list", data := .seq us.toArray k }) := by simpa using hp
      subst e
      rfl
    rcases turn i n ys τ H' w' with ⟨stop, fin⟩ | ⟨go, hlen, step⟩
    · have q := T.done Y hYp hYw hYK hYc i _ s' τ H' (fun _ _ => False) Ip (fpY _ hn' onlyD) st' stop
      rw [hYA] at q
      refine thn q fun r s4 ⟨hr, I4⟩ => ?_
      subst hr
      have un : Un (frs X.stack) fp H H' s.heap s4.heap := by
        have z := I4.base
        rw [hYfs, hYex, hYH, hYs] at z
        exact z
      have os4 : s4.os = s.os := by
        have z := I4.os
        rw [hYs] at z
        exact z
      have hok4 : HOk X.prog X.w H' s4.heap := by
        have z := I4.hok
        rw [hYp, hYw] at z
        exact z
      have hch : ∀ b ∈ fp, (b ∈ X.ex ∨ X.s₀.heap.objs.size ≤ b) ∧ b ≠ X.env.locals ∧ (∀ x c, X.env.cells.lookup x = some c → c ≠ b) ∧ ∀ p ∈ X.pn ++ pins, p.1 ≠ b := fun b hb => by
        obtain ⟨_, f1, f2, f3, f4, f5⟩ := hf b hb
        exact ⟨f3, f1, f4, f5⟩
      have IX : Inv X pins σ H' s4 := I.call' os4 un hok4 I4.bare hch
      obtain ⟨mC, hmC, _⟩ := I4.loc
      have hCf := I4.free
      rw [hYe] at hmC hCf
      have pD := I4.pin (s.heap.objs.size, { cls := .type "list", data := .seq us.toArray k }) (List.mem_append_right _ (List.mem_singleton.mpr rfl))
      exact hRR _ _ s4 H' ys us k mC IX pD.1 hv' hz' pD.2.1 hCf (Nat.le_refl _) hCle hD0 hmC fin
    · have q := T.item Y hYp hYw hYK hYc i _ s' τ H' (fun _ _ => False) Ip (fpY _ hn' onlyD) st' go
      rw [hYA] at q
      refine thn q fun r s4 ⟨u, hr, h4⟩ => ?_
      subst hr
      refine thn h4 fun _ s5 ⟨x, H5, I5, r5, y5, st5, fr5⟩ => ?_
      have I5' := I5.pinned (fpY _ fr5 onlyD) (T.obj _ _ st5)
      have g5 := gY _ s5 τ H5 x u _ I5' r5 (step x H5 y5)
      rw [hYp, hYw, hYA, hYe, hYx] at g5
      refine thn g5 fun _ s6 ⟨σ6, H6, I6, q6⟩ => ?_
      have t6 := tY _ s6 σ6 H6 _ I6 q6
      rw [hYp, hYw, hYA, hYe, hYx] at t6
      refine thn t6 fun ok s7 ⟨H7, I7, q7⟩ => ?_
      -- what the pins say behind the turn
      have keepD : ∀ {σ8 : St} {H8 : Hp} {s8 : Shared}, Inv Y ([(s.heap.objs.size, { cls := .type "list", data := .seq us.toArray k })] ++ pinsAt fp s5.heap) σ8 H8 s8 → s8.heap.get? s.heap.objs.size = some { cls := .type "list", data := .seq us.toArray k } ∧ H8 s.heap.objs.size = none :=
        fun {σ8 H8 s8} I8 => by
          have pD := I8.pin (s.heap.objs.size, { cls := .type "list", data := .seq us.toArray k }) (List.mem_append_right _ (List.mem_append_left _ (List.mem_singleton.mpr rfl)))
          exact ⟨pD.1, pD.2.1⟩
      have keepI : ∀ {σ8 : St} {H8 : Hp} {s8 : Shared}, Inv Y ([(s.heap.objs.size, { cls := .type "list", data := .seq us.toArray k })] ++ pinsAt fp s5.heap) σ8 H8 s8 → tn (i + 1) s8.heap ∧ ∀ b ∈ fp, H8 b = none :=
        fun {σ8 H8 s8} I8 => by
          refine ⟨T.keep _ _ _ st5 fun b hb o e => (I8.pin (b, o) (List.mem_append_right _ (List.mem_append_right _ (mem_pinsAt hb e)))).1, fun b hb => ?_⟩
          obtain ⟨o, e, d⟩ := T.obj _ _ st5 b hb
          exact (I8.pin (b, o) (List.mem_append_right _ (List.mem_append_right _ (mem_pinsAt hb e)))).2.1
      cases ok with
      | false =>
        rw [if_neg Bool.false_ne_true] at q7 ⊢
        obtain ⟨m', hm', w7⟩ := q7
        obtain ⟨a7, b7⟩ := keepD I7
        obtain ⟨c7, d7⟩ := keepI I7
        exact ⟨m', hm', i + 1, ys, σ6, H7, us, k, I7.pins_of (fun p hp => (nomatch hp)), c7, d7, b7, a7, hv', hz', w7⟩
      | true =>
        rw [if_pos rfl] at q7 ⊢
        have e7 := eY _ s7 σ6 H7 _ I7 q7
        rw [hYp, hYw, hYA, hYe, hYx] at e7
        refine thn e7 fun v s8 ⟨y, H8, I8, r8, m', hm', w8⟩ => ?_
        obtain ⟨a8, b8⟩ := keepD I8
        obtain ⟨c8, d8⟩ := keepI I8
        have hl := hv'.length
        refine call_meets F.slot_list_append ⟨_, a8, rfl⟩ F.entry_list_append (F.args_list_append_2 _ _) (PySem.list_append s.heap.objs.size us.toArray k v (by rw [List.size_toArray]; omega)) ⟨a8, ?_⟩
        have qu := PySem.IsL.update a8 (fun xs => xs.push v)
        have I9 := (I8.pins_of (pins' := []) fun p hp => nomatch hp).turned (it := s.heap.objs.size) (t' := s8.toks) (h' := s8.heap.update s.heap.objs.size (Obj.mapSeq fun xs => xs.push v)) (fun b o hb e => (Heap.get?_update_other s8.heap _ (Ne.symm hb)).trans e) b8 D_loc (.inr (by rw [hYs]; exact Nat.le_refl _)) D_cell D_pin
        have ep : us.toArray.push v = (us ++ [v]).toArray := by simp
        rw [ep] at qu
        refine ⟨m', hm', i + 1, ys ++ [y], σ6, H8, us ++ [v], (if (us ++ [v]).toArray.size == us.toArray.size then k else k + 1), I9, T.keep _ _ _ c8 fun b hb o e => (Heap.get?_update_other s8.heap _ (Ne.symm (below b (hfb b hb)).2)).trans e, d8, b8, ?_, hv'.append (.cons r8 .nil), ?_, w8⟩
        · exact qu
        · rw [List.length_append, List.length_singleton]; omega
  exact codeAny_compStart_list (loop _ rfl) (T.self _ 0 _ _ _ st1 (loop _ rfl))
/-- [elt for tg in iter if ..] -/
def tLC (wi : TI) (g : TG) (tt : TT) (te : TE) (k : Nat) (fr : List Nat) : TE := fun σ H Q => wi σ H fun J H1 => ∃ W : LcW, (∃ m, W 0 m [] (lcS k fr σ) H1) ∧ lcStep J g tt te W fun ys H2 => ∀ p, H2 p = none → Q (.ref p) (upd H2 p (.lst ys))
theorem lc_closure (L : LcOk X sc own fr) (ok : X.Ok) : ∃ cl, closureFor sc X.env = pure cl ∧ (∀ n c, cl.lookup n = some c → X.env.cells.lookup n = some c) ∧ (∀ n, (n, NameKind.free) ∈ sc.names → ∃ c, cl.lookup n = some c) :=
  closure_some fun x hx hf => ok.has x.1 (L.free x hx hf)
theorem pe_lc {wi : TI} (hc : X.calm = true) (L : LcOk X sc own fr) (hi : PI X tg iter wi)
    (hg : ∀ cl C s H ex pl, PG (blk X sc (lcN X own fr) cl C s H ex pl) tg g) (ht : ∀ cl C s H ex pl, PTs (blk X sc (lcN X own fr) cl C s H ex pl) ifs tt) (he : ∀ cl C s H ex pl, PE (blk X sc (lcN X own fr) cl C s H ex pl) elt te)
    (hs : ∀ x, foldedSetIterable iter X.env x = pure x := by intro _; rfl) : PE X (.ListComp elt [⟨tg, iter, ifs, 0⟩] sc pos) (tLC wi g tt te own.length fr) := by
  intro pins s σ H Q I h
  obtain ⟨cl, hcl, c1, c2⟩ := lc_closure L I.ok
  rw [eval_ListComp]
  refine wpAny_comprehension_free (use := none) (g := ⟨tg, iter, ifs, 0⟩) (gs := []) rfl hs hcl L.kind L.names ?_
  refine thn (hi pins s σ H _ I h) fun v s1 h1 => thn h1 fun itv s2 h2 => ?_
  obtain ⟨it, fp, tn, J, H2, e, I2, T, st2, f2, W, w0, turn⟩ := h2
  subst e
  refine lc_core (cl := cl) hc L c1 c2 (hg cl) (ht cl) (he cl) I2 T st2 f2 w0 turn fun D C s' H' ys us n m I' a' hv hz hD hC dD dC hDC hns fin => ?_
  refine ⟨m, hns, fun h' sb => ?_⟩
  have far : ∀ b, s2.heap.objs.size ≤ b → (X.s₀.heap.objs.size ≤ b) ∧ b ≠ X.env.locals ∧ (∀ x c, X.env.cells.lookup x = some c → c ≠ b) ∧ ∀ p ∈ X.pn ++ pins, p.1 ≠ b := fun b hb => by
    obtain ⟨_, f1, _, f3, f4, f5⟩ := I2.fpOk (H' := fun _ => none) hb rfl
    refine ⟨Nat.le_trans I2.sz hb, f1, f4, f5⟩
  obtain ⟨z1, z2, z3, z4⟩ := far C dC
  obtain ⟨y1, y2, y3, y4⟩ := far D dD
  have I3 : Inv X pins σ H' { s' with heap := h' } := I'.turned (t' := s'.toks) (fun b o hb e => sb.extBut b o hb e) hC z2 (.inr z1) z3 z4
  exact ⟨.ref D, _, I3.track (sb.extBut _ _ hDC a') hD hv hz y1 y2 y3 y4, rfl, fin D hD⟩
/-- x = [elt for tg in iter if ..]: the store goes ahead of letting the clause's names go -/
theorem ps_setLC {wi : TI} {i : Nat} {x : Str} {pos' spos : Pos} (hN : X.N.Nodup) (hi' : X.N[i]? = some x) (hx : Loc X.env.scope x) (hc : X.calm = true) (L : LcOk X sc own fr) (hi : PI X tg iter wi)
    (hg : ∀ cl C s H ex pl, PG (blk X sc (lcN X own fr) cl C s H ex pl) tg g) (ht : ∀ cl C s H ex pl, PTs (blk X sc (lcN X own fr) cl C s H ex pl) ifs tt) (he : ∀ cl C s H ex pl, PE (blk X sc (lcN X own fr) cl C s H ex pl) elt te)
    (hsw : swapsWith (.ListComp elt [⟨tg, iter, ifs, 0⟩] sc pos) (some (.Name x pos')) spos.line X.env = pure true := by rfl)
    (hs : ∀ x, foldedSetIterable iter X.env x = pure x := by intro _; rfl) (hf : X.fn x = true ∨ X.env.scope.names.lookup x = some .local := by first | exact .inl rfl | exact .inr rfl | assumption) :
    PS X (.Assign [.Name x pos'] (.ListComp elt [⟨tg, iter, ifs, 0⟩] sc pos) spos) (tAsg (tLC wi g tt te own.length fr) (gName i)) := by
  intro pins s σ H D' I h
  obtain ⟨cl, hcl, c1, c2⟩ := lc_closure L I.ok
  rw [exec_Assign_Name_used _ _ _ _ hsw]
  refine wpAny_bind (wpAny_standAt (wpAny_bind ?_))
  show wpAny _ _ (evalThenUse (.ListComp elt [⟨tg, iter, ifs, 0⟩] sc pos) X.env (assign (.Name x pos') X.env)) _ _ _
  unfold evalThenUse
  refine wpAny_bind ?_
  refine wpAny_comprehension_free (use := some (assign (.Name x pos') X.env)) (g := ⟨tg, iter, ifs, 0⟩) (gs := []) rfl hs hcl L.kind L.names ?_
  refine thn (hi pins s σ H _ I h) fun v s1 h1 => thn h1 fun itv s2 h2 => ?_
  obtain ⟨it, fp, tn, J, H2, e, I2, T, st2, f2, W, w0, turn⟩ := h2
  subst e
  refine lc_core (cl := cl) hc L c1 c2 (hg cl) (ht cl) (he cl) I2 T st2 f2 w0 turn fun D C s' H' ys us n m I' a' hv hz hD hC dD dC hDC hns fin => ?_
  have far : ∀ b, s2.heap.objs.size ≤ b → (X.s₀.heap.objs.size ≤ b) ∧ b ≠ X.env.locals ∧ (∀ x c, X.env.cells.lookup x = some c → c ≠ b) ∧ (b ∉ X.fs) ∧ ∀ p ∈ X.pn ++ pins, p.1 ≠ b := fun b hb => by
    obtain ⟨_, f1, f2, f3, f4, f5⟩ := I2.fpOk (H' := fun _ => none) hb rfl
    refine ⟨Nat.le_trans I2.sz hb, f1, f4, f2, f5⟩
  obtain ⟨z1, z2, z3, z0, z4⟩ := far C dC
  obtain ⟨y1, y2, y3, _, y4⟩ := far D dD
  have I3 := I'.track a' hD hv hz y1 y2 y3 y4
  obtain ⟨oC, hoC, nsC⟩ : ∃ o, s'.heap.get? C = some o ∧ ∃ es ep, o.data = .dict es ep := by
    obtain ⟨o, es, ep, e1, e2, _⟩ := hns
    exact ⟨o, e1, es, ep, e2⟩
  have hCt : (upd H' D (.lst ys)) C = none := by rw [upd_ne (Ne.symm hDC)]; exact hC
  have I4 : Inv X (pins ++ [(C, oC)]) σ (upd H' D (.lst ys)) s' := I3.pins_of fun p hp => by
    rcases List.mem_append.mp hp with z | z
    · exact I3.pin p (List.mem_append_right _ z)
    · have e : p = (C, oC) := by simpa using z
      subst e
      obtain ⟨es, ep, hd⟩ := nsC
      exact ⟨hoC, hCt, z2, z0, fun v z => by have z' : oC.data = .cell v := z; rw [hd] at z'; cases z'⟩
  refine thn (pg_name (pos := pos') hN hi' hx hf _ s' σ _ (.ref D) (.ref D) _ I4 rfl (fin D hD)) fun _ s5 ⟨σ5, H5, I5, q5⟩ => ?_
  have pC := I5.pin (C, oC) (List.mem_append_right _ (List.mem_append_right _ (List.mem_singleton.mpr rfl)))
  obtain ⟨o, es, ep, e1, e2, e3⟩ := hns
  rw [hoC] at e1
  cases e1
  refine ⟨m, ⟨oC, es, ep, pC.1, e2, e3⟩, fun h' sb => ?_⟩
  have I6 : Inv X pins σ5 H5 { s5 with heap := h' } := (I5.unpinned).turned (t' := s5.toks) (fun b o hb e => sb.extBut b o hb e) pC.2.1 z2 (.inr z1) z3 z4
  exact wpAny_pure (wpAny_pure ⟨σ5, H5, I6, q5⟩)
end
end L2

set_option Elab.async false
set_option linter.all false
set_option maxRecDepth 100000
set_option maxHeartbeats 4000000
/-! THE DATA LAYER: what is never changed is its datum; what is changed stands in a small store of its own. Readings speak of these alone. -/
namespace D
open PySem PySem.Spec PyProof.Rows L2
abbrev St := L2.St

/-- what never changes stays -/
structure Kp (H H' : Hp) : Prop where
  tup : ∀ b xs, H b = some (.tup xs) → H' b = some (.tup xs)
  frz : ∀ b o u, H b = some (.frz o u) → H' b = some (.frz o u)
theorem Kp.refl (H : Hp) : Kp H H := ⟨fun _ _ e => e, fun _ _ _ e => e⟩
theorem Kp.trans {H H1 H2 : Hp} (a : Kp H H1) (b : Kp H1 H2) : Kp H H2 := ⟨fun c xs e => b.tup c xs (a.tup c xs e), fun c o u e => b.frz c o u (a.frz c o u e)⟩
theorem Kp.new {H : Hp} {p : Addr} {o : HO} (h : H p = none) : Kp H (upd H p o) := ⟨fun b xs e => by rw [upd_ne (ne_of_none e h)]; exact e, fun b ob u e => by rw [upd_ne (ne_of_none e h)]; exact e⟩
theorem Kp.set {H : Hp} {p : Addr} {o u : HO} (h : H p = some u) (ht : ∀ xs, u ≠ .tup xs) (hf : ∀ ob v, u ≠ .frz ob v) : Kp H (upd H p o) :=
  ⟨fun b xs e => by rw [upd_ne (ne_of e h fun z => ht _ z.symm)]; exact e, fun b ob v e => by rw [upd_ne (ne_of e h fun z => hf _ _ z.symm)]; exact e⟩
theorem Kp.un {fs ex : List Addr} {H H' : Hp} {h h' : Heap} (u : Un fs ex H H' h h') : Kp H H' := ⟨u.tups, u.frzs⟩

/-- a list that never changes -/
def SqF (K : PySem.W.Frag) (H : Hp) (a : Addr) (xs : List V) : Prop :=
  (∃ o, H a = some (.frz o (.lst xs))) ∨ ∃ (o : Obj) (its : Array Value) (n : Nat), K.lookup a = some o ∧ o.cls = .type "list" ∧ o.dict = none ∧ o.data = .seq its n ∧ its.size ≤ sizeLine ∧ Vals xs its.toList
theorem SqF.sq {K : PySem.W.Frag} {H : Hp} {a : Addr} {xs : List V} (h : SqF K H a xs) : SqL K H a xs := by
  rcases h with h | h
  · exact .inl (.inr h)
  · exact .inr h
theorem SqF.keep {K : PySem.W.Frag} {H H' : Hp} {a : Addr} {xs : List V} (k : Kp H H') (h : SqF K H a xs) : SqF K H' a xs := by
  rcases h with ⟨o, h⟩ | h
  · exact .inl ⟨o, k.frz _ _ _ h⟩
  · exact .inr h
theorem SqT.keep {K : PySem.W.Frag} {H H' : Hp} {a : Addr} {xs : List V} (k : Kp H H') (h : SqT K H a xs) : SqT K H' a xs := by
  rcases h with (h | ⟨o, h⟩) | h
  · exact .inl (.inl (k.tup _ _ h))
  · exact .inl (.inr ⟨o, k.frz _ _ _ h⟩)
  · exact .inr h
def keyD : Key → PyData
  | .inl i => .int i
  | .inr x => .str x

mutual
/-- the value v bears the datum -/
def RepD (K : PySem.W.Frag) (H : Hp) : PyData → V → Prop
  | .none, v => v = .non
  | .bool b, v => v = .bl b
  | .int i, v => v = .int i
  | .str x, v => v = .str x
  | .list ds, v => ∃ a vs, v = .ref a ∧ SqF K H a vs ∧ RepA K H ds vs
  | .tuple ds, v => ∃ a vs, v = .ref a ∧ SqT K H a vs ∧ RepA K H ds vs
  | .dict kvs, v => ∃ a o l, v = .ref a ∧ H a = some (.frz o (.dK l)) ∧ RepK K H kvs l
def RepA (K : PySem.W.Frag) (H : Hp) : List PyData → List V → Prop
  | [], vs => vs = []
  | d :: ds, vs => ∃ v r, vs = v :: r ∧ RepD K H d v ∧ RepA K H ds r
def RepK (K : PySem.W.Frag) (H : Hp) : List (PyData × PyData) → List (Key × V) → Prop
  | [], l => l = []
  | (k, d) :: ds, l => ∃ key v r, l = (key, v) :: r ∧ k = keyD key ∧ RepD K H d v ∧ RepK K H ds r
end
mutual
theorem RepD.keep {K : PySem.W.Frag} {H H' : Hp} (k : Kp H H') : ∀ {d : PyData} {v : V}, RepD K H d v → RepD K H' d v
  | .none, v, h => by simp only [RepD] at h ⊢; exact h
  | .bool b, v, h => by simp only [RepD] at h ⊢; exact h
  | .int i, v, h => by simp only [RepD] at h ⊢; exact h
  | .str x, v, h => by simp only [RepD] at h ⊢; exact h
  | .list ds, v, h => by
    simp only [RepD] at h ⊢
    obtain ⟨a, vs, e, s, r⟩ := h
    exact ⟨a, vs, e, s.keep k, RepA.keep k r⟩
  | .tuple ds, v, h => by
    simp only [RepD] at h ⊢
    obtain ⟨a, vs, e, s, r⟩ := h
    exact ⟨a, vs, e, SqT.keep k s, RepA.keep k r⟩
  | .dict kvs, v, h => by
    simp only [RepD] at h ⊢
    obtain ⟨a, o, l, e, s, r⟩ := h
    exact ⟨a, o, l, e, k.frz _ _ _ s, RepK.keep k r⟩
theorem RepA.keep {K : PySem.W.Frag} {H H' : Hp} (k : Kp H H') : ∀ {ds : List PyData} {vs : List V}, RepA K H ds vs → RepA K H' ds vs
  | [], vs, h => by simp only [RepA] at h ⊢; exact h
  | d :: ds, vs, h => by
    simp only [RepA] at h ⊢
    obtain ⟨v, r, e, h1, h2⟩ := h
    exact ⟨v, r, e, RepD.keep k h1, RepA.keep k h2⟩
theorem RepK.keep {K : PySem.W.Frag} {H H' : Hp} (k : Kp H H') : ∀ {ds : List (PyData × PyData)} {l : List (Key × V)}, RepK K H ds l → RepK K H' ds l
  | [], l, h => by simp only [RepK] at h ⊢; exact h
  | (key, d) :: ds, l, h => by
    simp only [RepK] at h ⊢
    obtain ⟨k', v, r, e, ek, h1, h2⟩ := h
    exact ⟨k', v, r, e, ek, RepD.keep k h1, RepK.keep k h2⟩
end
theorem RepA.length {K : PySem.W.Frag} {H : Hp} : ∀ {ds : List PyData} {vs : List V}, RepA K H ds vs → vs.length = ds.length
  | [], vs, h => by simp only [RepA] at h; rw [h]; rfl
  | d :: ds, vs, h => by
    simp only [RepA] at h
    obtain ⟨v, r, e, _, h2⟩ := h
    rw [e, List.length_cons, List.length_cons, RepA.length h2]
theorem RepA.get {K : PySem.W.Frag} {H : Hp} : ∀ {ds : List PyData} {vs : List V} {i : Nat} {d : PyData}, RepA K H ds vs → ds[i]? = some d → ∃ v, vs[i]? = some v ∧ RepD K H d v
  | [], _, _, _, _, e => by simp at e
  | d :: ds, vs, 0, d', h, e => by
    simp only [RepA] at h
    obtain ⟨v, r, ev, h1, _⟩ := h
    simp at e
    subst e
    exact ⟨v, by rw [ev]; rfl, h1⟩
  | d :: ds, vs, i + 1, d', h, e => by
    simp only [RepA] at h
    obtain ⟨v, r, ev, _, h2⟩ := h
    obtain ⟨v', e1, e2⟩ := RepA.get (i := i) h2 (by simpa using e)
    exact ⟨v', by rw [ev]; simpa using e1, e2⟩
theorem RepA.get' {K : PySem.W.Frag} {H : Hp} {ds : List PyData} {vs : List V} {i : Nat} {v : V} (h : RepA K H ds vs) (e : vs[i]? = some v) : ∃ d, ds[i]? = some d ∧ RepD K H d v := by
  have hi : i < ds.length := by
    have := (List.getElem?_eq_some_iff.mp e).1
    rw [h.length] at this
    exact this
  obtain ⟨v', e1, r⟩ := h.get (i := i) (d := ds[i]) (by simp [hi])
  rw [e] at e1
  cases e1
  exact ⟨ds[i], by simp [hi], r⟩
theorem RepA.ints {K : PySem.W.Frag} {H : Hp} : ∀ (ns : List Int), RepA K H (ns.map PyData.int) (ns.map V.int)
  | [] => by simp [RepA]
  | n :: ns => by
    simp only [List.map_cons, RepA]
    exact ⟨_, _, rfl, by simp [RepD], RepA.ints ns⟩
theorem RepA.append {K : PySem.W.Frag} {H : Hp} : ∀ {ds es : List PyData} {vs us : List V}, RepA K H ds vs → RepA K H es us → RepA K H (ds ++ es) (vs ++ us)
  | [], es, vs, us, h, q => by simp only [RepA] at h; subst h; exact q
  | d :: ds, es, vs, us, h, q => by
    simp only [RepA] at h
    obtain ⟨v, r, e, h1, h2⟩ := h
    subst e
    simp only [List.cons_append, RepA]
    exact ⟨v, r ++ us, rfl, h1, RepA.append h2 q⟩
theorem RepA.drop {K : PySem.W.Frag} {H : Hp} : ∀ {ds : List PyData} {vs : List V} (n : Nat), RepA K H ds vs → RepA K H (ds.drop n) (vs.drop n)
  | ds, vs, 0, h => by simpa using h
  | [], vs, n + 1, h => by simp only [RepA] at h; subst h; simp [RepA]
  | d :: ds, vs, n + 1, h => by
    simp only [RepA] at h
    obtain ⟨v, r, e, _, h2⟩ := h
    subst e
    simpa using RepA.drop n h2
theorem RepA.take {K : PySem.W.Frag} {H : Hp} : ∀ {ds : List PyData} {vs : List V} (n : Nat), RepA K H ds vs → RepA K H (ds.take n) (vs.take n)
  | ds, vs, 0, h => by simp [RepA]
  | [], vs, n + 1, h => by simp only [RepA] at h; subst h; simp [RepA]
  | d :: ds, vs, n + 1, h => by
    simp only [RepA] at h
    obtain ⟨v, r, e, h1, h2⟩ := h
    subst e
    simp only [List.take_succ_cons, RepA]
    exact ⟨v, _, rfl, h1, RepA.take n h2⟩

/-! ### values and the store -/
/-- a value: a datum; an object of the store; a type -/
inductive W where
  | d (x : PyData)
  | m (a : Addr)
  | t (n : String)
/-- an object of the store -/
inductive MO where
  | lst (ws : List W)
  | dic (kvs : List (Key × W))
  | dct (kvs : List (List Key × W))
  | fdic (kvs : List (Key × W))
  | ins (C : Addr) (fs : List (Str × W))
abbrev MH := Addr → Option MO
def updM (M : MH) (a : Addr) (o : MO) : MH := fun b => if b = a then some o else M b
theorem updM_same {M : MH} {a : Addr} {o : MO} : updM M a o a = some o := if_pos rfl
theorem updM_ne {M : MH} {a b : Addr} {o : MO} (h : b ≠ a) : updM M a o b = M b := if_neg h
theorem updM_updM {M : MH} {a : Addr} {o u : MO} : updM (updM M a o) a u = updM M a u := by funext b; unfold updM; split <;> rfl
abbrev DS := List (Option W)
def RepW (K : PySem.W.Frag) (H : Hp) : W → V → Prop
  | .d x, v => RepD K H x v
  | .m a, v => v = .ref a
  | .t n, v => v = .ty n
theorem RepW.keep {K : PySem.W.Frag} {H H' : Hp} (k : Kp H H') : ∀ {w : W} {v : V}, RepW K H w v → RepW K H' w v
  | .d _, _, h => RepD.keep k h
  | .m _, _, h => h
  | .t _, _, h => h
def RepWs (K : PySem.W.Frag) (H : Hp) : List W → List V → Prop := Paired (RepW K H)
theorem RepWs.keep {K : PySem.W.Frag} {H H' : Hp} (k : Kp H H') {ws : List W} {vs : List V} (h : RepWs K H ws vs) : RepWs K H' ws vs := Paired.mapP h fun _ _ r => r.keep k
theorem RepWs.length {K : PySem.W.Frag} {H : Hp} {ws : List W} {vs : List V} (h : RepWs K H ws vs) : ws.length = vs.length := Paired.length h
theorem RepWs.get {K : PySem.W.Frag} {H : Hp} : ∀ {ws : List W} {vs : List V} {i : Nat} {w : W}, RepWs K H ws vs → ws[i]? = some w → ∃ v, vs[i]? = some v ∧ RepW K H w v
  | _, _, _, _, .nil, e => by simp at e
  | _, _, 0, _, .cons r _, e => by simp at e; subst e; exact ⟨_, rfl, r⟩
  | _, _, i + 1, _, .cons _ t, e => by
    obtain ⟨u, h1, h2⟩ := RepWs.get (i := i) t (by simpa using e)
    exact ⟨u, by simpa using h1, h2⟩
theorem RepWs.set {K : PySem.W.Frag} {H : Hp} {w : W} {v : V} (r : RepW K H w v) : ∀ {ws : List W} {vs : List V} (i : Nat), RepWs K H ws vs → RepWs K H (ws.set i w) (vs.set i v)
  | _, _, _, .nil => .nil
  | _, _, 0, .cons _ t => .cons r t
  | _, _, i + 1, .cons q t => .cons q (RepWs.set r i t)
theorem RepWs.append {K : PySem.W.Frag} {H : Hp} : ∀ {ws ws' : List W} {vs vs' : List V}, RepWs K H ws vs → RepWs K H ws' vs' → RepWs K H (ws ++ ws') (vs ++ vs')
  | _, _, _, _, .nil, s => s
  | _, _, _, _, .cons r t, s => .cons r (RepWs.append t s)
theorem RepWs.data {K : PySem.W.Frag} {H : Hp} : ∀ {ds : List PyData} {vs : List V}, RepWs K H (ds.map W.d) vs → RepA K H ds vs
  | [], _, h => by cases h; simp [RepA]
  | d :: ds, _, h => by
    cases h with
    | cons r t => simp only [RepA]; exact ⟨_, _, rfl, r, RepWs.data t⟩
theorem RepA.ws {K : PySem.W.Frag} {H : Hp} : ∀ {ds : List PyData} {vs : List V}, RepA K H ds vs → RepWs K H (ds.map W.d) vs
  | [], vs, h => by simp only [RepA] at h; subst h; exact .nil
  | d :: ds, vs, h => by
    simp only [RepA] at h
    obtain ⟨v, r, e, h1, h2⟩ := h
    subst e
    exact .cons h1 (RepA.ws h2)
/-- an object of the store stands in the heap -/
def RepM (K : PySem.W.Frag) (H : Hp) (a : Addr) : MO → Prop
  | .lst ws => ∃ vs, H a = some (.lst vs) ∧ RepWs K H ws vs
  | .dic kvs => ∃ l, H a = some (.dK l) ∧ Paired (fun (p : Key × W) (q : Key × V) => p.1 = q.1 ∧ RepW K H p.2 q.2) kvs l
  | .fdic kvs => ∃ o l, H a = some (.frz o (.frz o (.dK l))) ∧ Paired (fun (p : Key × W) (q : Key × V) => p.1 = q.1 ∧ RepW K H p.2 q.2) kvs l
  | .dct kvs => ∃ l, H a = some (.dT l) ∧ Paired (fun (p : List Key × W) (q : List Key × V) => p.1 = q.1 ∧ RepW K H p.2 q.2) kvs l
  | .ins C fs => ∃ dx l, H a = some (.ins C dx l) ∧ Paired (fun (p : Str × W) (q : Str × V) => p.1 = q.1 ∧ RepW K H p.2 q.2) fs l
def MAbs (K : PySem.W.Frag) (H : Hp) (M : MH) : Prop := ∀ a o, M a = some o → RepM K H a o
theorem RepM.is {K : PySem.W.Frag} {H : Hp} {a : Addr} {o : MO} (h : RepM K H a o) : ∃ u, H a = some u := by
  cases o with
  | lst ws => obtain ⟨vs, e, _⟩ := h; exact ⟨_, e⟩
  | dic kvs => obtain ⟨l, e, _⟩ := h; exact ⟨_, e⟩
  | dct kvs => obtain ⟨l, e, _⟩ := h; exact ⟨_, e⟩
  | fdic kvs => obtain ⟨o, l, e, _⟩ := h; exact ⟨_, e⟩
  | ins C fs => obtain ⟨dx, l, e, _⟩ := h; exact ⟨_, e⟩
theorem MAbs.free {K : PySem.W.Frag} {H : Hp} {M : MH} (h : MAbs K H M) {p : Addr} (e : H p = none) : M p = none := by
  cases q : M p with
  | none => rfl
  | some o =>
    obtain ⟨u, z⟩ := (h p o q).is
    rw [e] at z
    cases z
theorem RepM.keep {K : PySem.W.Frag} {H H' : Hp} {a : Addr} {o : MO} (k : Kp H H') (s : ∀ u, H a = some u → H' a = some u) (h : RepM K H a o) : RepM K H' a o := by
  cases o with
  | lst ws => obtain ⟨vs, e, r⟩ := h; exact ⟨vs, s _ e, r.keep k⟩
  | dic kvs => obtain ⟨l, e, r⟩ := h; exact ⟨l, s _ e, Paired.mapP r fun p q z => ⟨z.1, z.2.keep k⟩⟩
  | dct kvs => obtain ⟨l, e, r⟩ := h; exact ⟨l, s _ e, Paired.mapP r fun p q z => ⟨z.1, z.2.keep k⟩⟩
  | fdic kvs => obtain ⟨o, l, e, r⟩ := h; exact ⟨o, l, s _ e, Paired.mapP r fun p q z => ⟨z.1, z.2.keep k⟩⟩
  | ins C fs => obtain ⟨dx, l, e, r⟩ := h; exact ⟨dx, l, s _ e, Paired.mapP r fun p q z => ⟨z.1, z.2.keep k⟩⟩
/-- something new is laid: the store stands -/
theorem MAbs.new {K : PySem.W.Frag} {H : Hp} {M : MH} {p : Addr} {o : HO} (h : MAbs K H M) (e : H p = none) : MAbs K (upd H p o) M := fun a mo q =>
  (h a mo q).keep (Kp.new e) fun u z => by rw [upd_ne (ne_of_none z e)]; exact z
theorem MAbs.put {K : PySem.W.Frag} {H : Hp} {M : MH} {p : Addr} {o : HO} {mo : MO} (h : MAbs K H M) (k : Kp H (upd H p o)) (r : RepM K (upd H p o) p mo) : MAbs K (upd H p o) (updM M p mo) := fun a mo' q => by
  by_cases e : a = p
  · subst e
    rw [updM_same] at q
    cases q
    exact r
  · rw [updM_ne e] at q
    exact (h a mo' q).keep k fun u z => by rw [upd_ne e]; exact z
/-- the names' values and the store -/
structure Abs (K : PySem.W.Frag) (H : Hp) (σ : St) (τ : DS) (M : MH) : Prop where
  len : σ.length = τ.length
  val : ∀ (i : Nat) w, τ[i]? = some (some w) → ∃ v, σ[i]? = some (some v) ∧ RepW K H w v
  mem : MAbs K H M
theorem Abs.go {K : PySem.W.Frag} {H H' : Hp} {σ : St} {τ : DS} {M M' : MH} (h : Abs K H σ τ M) (k : Kp H H') (m : MAbs K H' M') : Abs K H' σ τ M' :=
  ⟨h.len, fun i w e => let ⟨v, q, r⟩ := h.val i w e; ⟨v, q, r.keep k⟩, m⟩
theorem Abs.set {K : PySem.W.Frag} {H : Hp} {σ : St} {τ : DS} {M : MH} {w : W} {v : V} (h : Abs K H σ τ M) (i : Nat) (r : RepW K H w v) : Abs K H (σ.set i (some v)) (τ.set i (some w)) M := by
  refine ⟨by rw [List.length_set, List.length_set]; exact h.len, fun j w' e => ?_, h.mem⟩
  by_cases hj : i = j
  · subst hj
    have hl : i < τ.length := by
      have := (List.getElem?_eq_some_iff.mp e).1
      rwa [List.length_set] at this
    rw [List.getElem?_set_self hl] at e
    cases e
    exact ⟨v, List.getElem?_set_self (by rw [h.len]; exact hl), r⟩
  · rw [List.getElem?_set_ne hj] at e
    obtain ⟨v', q, r'⟩ := h.val j w' e
    exact ⟨v', by rw [List.getElem?_set_ne hj]; exact q, r'⟩

/-! ### readings over data, and what they mean below -/
abbrev QD := W → MH → Prop
abbrev TD := DS → MH → QD → Prop
abbrev TTd := DS → MH → (Bool → MH → Prop) → Prop
abbrev TAd := DS → MH → (List W → MH → Prop) → Prop
structure Ed where
  nx : DS → MH → Prop
  rt : QD
  bk : DS → MH → Prop := fun _ _ => False
  ct : DS → MH → Prop := fun _ _ => False
abbrev TSd := Ed → DS → MH → Prop
def up (K : PySem.W.Frag) (t : TD) : TE := fun σ H Q => ∃ τ M Qd, Abs K H σ τ M ∧ t τ M Qd ∧ ∀ v H' w M', Kp H H' → RepW K H' w v → MAbs K H' M' → Qd w M' → Q v H'
def upT (K : PySem.W.Frag) (t : TTd) : TT := fun σ H Q => ∃ τ M Qd, Abs K H σ τ M ∧ t τ M Qd ∧ ∀ b H' M', Kp H H' → MAbs K H' M' → Qd b M' → Q b H'
def upA (K : PySem.W.Frag) (t : TAd) : TA := fun σ H Q => ∃ τ M Qd, Abs K H σ τ M ∧ t τ M Qd ∧ ∀ vs H' ws M', Kp H H' → RepWs K H' ws vs → MAbs K H' M' → Qd ws M' → Q vs H'
def upS (K : PySem.W.Frag) (t : TSd) : TS := fun D σ H => ∃ τ M Dd, Abs K H σ τ M ∧ t Dd τ M ∧
  (∀ σ' H' τ' M', Kp H H' → Abs K H' σ' τ' M' → Dd.nx τ' M' → D.nx σ' H') ∧ (∀ v H' w M', Kp H H' → RepW K H' w v → MAbs K H' M' → Dd.rt w M' → D.rt v H') ∧
  (∀ σ' H' τ' M', Kp H H' → Abs K H' σ' τ' M' → Dd.bk τ' M' → D.bk σ' H') ∧ (∀ σ' H' τ' M', Kp H H' → Abs K H' σ' τ' M' → Dd.ct τ' M' → D.ct σ' H')
section
variable {X : Cx}
abbrev PD (X : Cx) (e : Expr) (t : TD) : Prop := PE X e (up X.K t)
abbrev PTd (X : Cx) (e : Expr) (t : TTd) : Prop := PT X e (upT X.K t)
abbrev PAd (X : Cx) (es : List Expr) (t : TAd) : Prop := PA X es (upA X.K t)
abbrev PSd (X : Cx) (st : Stmt) (t : TSd) : Prop := PS X st (upS X.K t)
abbrev PSsd (X : Cx) (st : List Stmt) (t : TSd) : Prop := PSs X st (upS X.K t)
theorem pe_w {e : Expr} {t t' : TE} (h : PE X e t) (k : ∀ σ H Q, t' σ H Q → t σ H Q) : PE X e t' := fun pins s σ H Q I q => h pins s σ H Q I (k σ H Q q)
theorem pt_w {e : Expr} {t t' : TT} (h : PT X e t) (k : ∀ σ H Q, t' σ H Q → t σ H Q) : PT X e t' := fun pins s σ H Q I q => h pins s σ H Q I (k σ H Q q)
theorem pa_w {es : List Expr} {t t' : TA} (h : PA X es t) (k : ∀ σ H Q, t' σ H Q → t σ H Q) : PA X es t' := fun pos pins s σ H Q I q => h pos pins s σ H Q I (k σ H Q q)
theorem ps_w {st : Stmt} {t t' : TS} (h : PS X st t) (k : ∀ D σ H, t' D σ H → t D σ H) : PS X st t' := fun pins s σ H D I q => h pins s σ H D I (k D σ H q)
theorem pss_w {st : List Stmt} {t t' : TS} (h : PSs X st t) (k : ∀ D σ H, t' D σ H → t D σ H) : PSs X st t' := fun pins s σ H D I q => h pins s σ H D I (k D σ H q)
end
end D

set_option Elab.async false
set_option linter.all false
set_option maxRecDepth 100000
set_option maxHeartbeats 4000000
namespace D
open PySem PySem.Spec PyProof.Rows L2
section
variable {X : Cx} {pos : Pos} {a b c e : Expr} {ta tb tc te : TD} {K : PySem.W.Frag}
/-- what is wanted of a value, below -/
abbrev Kont (K : PySem.W.Frag) (H : Hp) (Qd : QD) (Q : VK) : Prop := ∀ v H' w M', Kp H H' → RepW K H' w v → MAbs K H' M' → Qd w M' → Q v H'
theorem kgo {H H1 : Hp} {Qd : QD} {Q : VK} (k : Kont K H Qd Q) (kp : Kp H H1) : Kont K H1 Qd Q := fun v H' w M' k2 r m q => k v H' w M' (kp.trans k2) r m q

/-! ### names, constants -/
def dVar (i : Nat) (τ : DS) (M : MH) (Q : QD) : Prop := ∃ w, τ[i]? = some (some w) ∧ Q w M
theorem pd_var {i : Nat} (h : PE X e (tVar i)) : PD X e (dVar i) := pe_w h fun σ H Q ⟨τ, M, Qd, A, ⟨w, e, q⟩, k⟩ => by
  obtain ⟨v, e', r⟩ := A.val i w e
  exact ⟨v, e', k v H w M (Kp.refl H) r A.mem q⟩
theorem dv (i : Nat) {x : Str} {pos : Pos} (hN : X.N[i]? = some x := by rfl) (hv : Vis X.env.scope x := by first | exact Or.inl rfl | exact Or.inr (Or.inl rfl) | exact Or.inr (Or.inr rfl)) (hd : (x == ("__debug__" : Str)) = false := by decide)
    (hcd : (x == ("__classdict__" : Str)) = false := by decide) : PD X (.Name x pos) (dVar i) := pd_var (pe_var hN hv hd hcd)
def dC (w : W) (_ : DS) (M : MH) (Q : QD) : Prop := Q w M
theorem pd_c {v : V} {w : W} (h : PE X e (tC v)) (r : ∀ H, RepW X.K H w v) : PD X e (dC w) := pe_w h fun σ H Q ⟨τ, M, Qd, A, q, k⟩ => k v H w M (Kp.refl H) (r H) A.mem q
theorem pd_int {i j pos} : PD X (.Constant (.int i) j pos) (dC (.d (.int i))) := pd_c pe_int fun H => by simp [RepW, RepD]
theorem pd_bl {b j pos} : PD X (.Constant (.bool b) j pos) (dC (.d (.bool b))) := pd_c pe_bl fun H => by simp [RepW, RepD]
theorem pd_non {j pos} : PD X (.Constant .none j pos) (dC (.d .none)) := pd_c pe_non fun H => by simp [RepW, RepD]
theorem pd_str {x j pos} : PD X (.Constant (.str x) j pos) (dC (.d (.str x))) := pd_c pe_str fun H => by simp [RepW, RepD]
theorem pd_globI {x : Str} {i : Int} {t : Tok} {pos : Pos} (hg : Gl X x) (hm : X.mg x = some (.int i t)) (hd : (x == ("__debug__" : Str)) = false := by decide) : PD X (.Name x pos) (dC (.d (.int i))) := pd_c (pe_glob (v := .int i) hg hm ⟨t, rfl⟩ hd) fun H => by simp [RepW, RepD]
theorem pd_globS {x : Str} {i : Str} {t : Tok} {pos : Pos} (hg : Gl X x) (hm : X.mg x = some (.str i t)) (hd : (x == ("__debug__" : Str)) = false := by decide) : PD X (.Name x pos) (dC (.d (.str i))) := pd_c (pe_glob (v := .str i) hg hm ⟨t, rfl⟩ hd) fun H => by simp [RepW, RepD]
/-- int, str, .. themselves -/
theorem pd_type {x : Str} {n : String} {pos : Pos} (hg : Gl X x) (hm : X.mg x = none) (hv : bootBuiltins x = some (.type n)) (hn : x ≠ "__name__" := by decide) (hd : (x == ("__debug__" : Str)) = false := by decide) : PD X (.Name x pos) (dC (.t n)) :=
  pd_c (pe_bltn (v := .ty n) hg hm hv rfl hn hd) fun H => by simp [RepW]

/-! ### operations -/
def OpD (K : PySem.W.Frag) (r : R2) (rd : W → W → MH → QD → Prop) : Prop := ∀ x y H w w' M Qd Q, RepW K H w x → RepW K H w' y → MAbs K H M → rd w w' M Qd → Kont K H Qd Q → r x y H Q
def dOp (rd : W → W → MH → QD → Prop) (ta tb : TD) (τ : DS) (M : MH) (Q : QD) : Prop := ta τ M fun w M1 => tb τ M1 fun w' M2 => rd w w' M2 Q
theorem imp_op {r : R2} {rd : W → W → MH → QD → Prop} (hd : OpD K r rd) {σ : St} {H : Hp} {Q : VK} (h : up K (dOp rd ta tb) σ H Q) : tOp r (up K ta) (up K tb) σ H Q := by
  obtain ⟨τ, M, Qd, A, h, k⟩ := h
  refine ⟨τ, M, _, A, h, fun x H1 w M1 kp r1 m1 q1 => ⟨τ, M1, _, A.go kp m1, q1, fun y H2 w' M2 kp2 r2 m2 q2 => ?_⟩⟩
  exact hd x y H2 w w' M2 Qd Q (r1.keep kp2) r2 m2 q2 (kgo k (kp.trans kp2))
theorem pd_op {op : Operator} {r : R2} {rd : W → W → MH → QD → Prop} (ho : OpR X (binaryOp op) r) (hd : OpD X.K r rd) (ha : PD X a ta) (hb : PD X b tb) : PD X (.BinOp a op b pos) (dOp rd ta tb) := pe_w (pe_op ho ha hb) fun σ H Q h => imp_op hd h
theorem pd_cmp {op : CmpOp} {r : R2} {rd : W → W → MH → QD → Prop} (ho : OpR X (compareOp op) r) (hd : OpD X.K r rd) (ha : PD X a ta) (hb : PD X b tb) (hm : behindInMarks op b = false := by first | exact nobehind _ (by decide) (by decide) | rfl) :
    PD X (.Compare a [op] [b] pos) (dOp rd ta tb) := pe_w (pe_cmpR ho ha hb hm) fun σ H Q h => imp_op hd h
theorem pd_ix {r : R2} {rd : W → W → MH → QD → Prop} (hr : IxR X r) (hd : OpD X.K r rd) (ha : PD X a ta) (hb : PD X b tb) (hs : PlainIx b := by intro _ _; rfl) : PD X (.Subscript a b pos) (dOp rd ta tb) := pe_w (pe_ix hr ha hb hs) fun σ H Q h => imp_op hd h
/-- a bool, as a test -/
def dTest (t : TD) (τ : DS) (M : MH) (Q : Bool → MH → Prop) : Prop := t τ M fun w M1 => ∃ k, w = .d (.bool k) ∧ Q k M1
theorem imp_test {t' : TE} (hi : ∀ σ H Q, up K ta σ H Q → t' σ H Q) {σ : St} {H : Hp} {Q : Bool → Hp → Prop} (h : upT K (dTest ta) σ H Q) : tTest t' σ H Q := by
  obtain ⟨τ, M, Qd, A, h, k⟩ := h
  refine hi σ H _ ⟨τ, M, _, A, h, fun v H' w M' kp r m ⟨b, e, q⟩ => ?_⟩
  subst e
  simp only [RepW, RepD] at r
  exact ⟨b, r, k b H' M' kp m q⟩
theorem ptd_cmp {op : CmpOp} {r : R2} {rd : W → W → MH → QD → Prop} (ho : OpR X (compareOp op) r) (hd : OpD X.K r rd) (ha : PD X a ta) (hb : PD X b tb) (hm : behindInMarks op b = false := by first | exact nobehind _ (by decide) (by decide) | rfl) :
    PTd X (.Compare a [op] [b] pos) (dTest (dOp rd ta tb)) := pt_w (pt_cmpR ho ha hb hm) fun σ H Q h => imp_test (fun _ _ _ q => imp_op hd q) h
theorem ptd_val (h : PD X e te) (he : ∀ whole, isTrue e X.env whole = (do let v ← whole; standAt e.pos; holding [v] (truthy v)) := by intro _; rfl) : PTd X e (dTest te) := pt_w (pt_val h he) fun σ H Q q => imp_test (fun _ _ _ z => z) q
/-- a op1 b op2 c -/
def dChain (r r' : W → W → MH → QD → Prop) (ta tb tc : TD) (τ : DS) (M : MH) (Q : QD) : Prop := ta τ M fun x M1 => tb τ M1 fun y M2 => r x y M2 fun z M3 => ∃ k, z = .d (.bool k) ∧ (if k = true then tc τ M3 fun w' M4 => r' y w' M4 Q else Q (.d (.bool false)) M3)
theorem imp_chain {r r' : R2} {rd rd' : W → W → MH → QD → Prop} (hd : OpD K r rd) (hd' : OpD K r' rd') {σ : St} {H : Hp} {Q : VK} (h : up K (dChain rd rd' ta tb tc) σ H Q) : tChain r r' (up K ta) (up K tb) (up K tc) σ H Q := by
  obtain ⟨τ, M, Qd, A, h, k⟩ := h
  refine ⟨τ, M, _, A, h, fun x H1 w M1 kp r1 m1 q1 => ⟨τ, M1, _, A.go kp m1, q1, fun y H2 w' M2 kp2 r2 m2 q2 => ?_⟩⟩
  have kq := kp.trans kp2
  refine hd x y H2 w w' M2 _ _ (r1.keep kp2) r2 m2 q2 fun v H3 w'' M3 kp3 r3 m3 ⟨b, e, q3⟩ => ?_
  subst e
  simp only [RepW, RepD] at r3
  refine ⟨b, r3, ?_⟩
  have kr := kq.trans kp3
  cases b with
  | false =>
    rw [if_neg Bool.false_ne_true] at q3 ⊢
    exact k _ H3 _ M3 kr (by simp [RepW, RepD]) m3 q3
  | true =>
    rw [if_pos rfl] at q3 ⊢
    exact ⟨τ, M3, _, A.go kr m3, q3, fun u H4 w4 M4 kp4 r4 m4 q4 => hd' y u H4 w' w4 M4 Qd Q (r2.keep (kp3.trans kp4)) r4 m4 q4 (kgo k (kr.trans kp4))⟩
theorem pd_chain {op op' : CmpOp} {r r' : R2} {rd rd' : W → W → MH → QD → Prop} (ho : OpR X (compareOp op) r) (hd : OpD X.K r rd) (ho' : OpR X (compareOp op') r') (hd' : OpD X.K r' rd') (ha : PD X a ta) (hb : PD X b tb) (hc : PD X c tc)
    (hm : lastMarks [op, op'] [b, c] = false := by with_unfolding_all rfl) : PD X (.Compare a [op, op'] [b, c] pos) (dChain rd rd' ta tb tc) := pe_w (pe_chain ho ho' ha hb hc hm) fun σ H Q h => imp_chain hd hd' h
theorem ptd_chain {op op' : CmpOp} {r r' : R2} {rd rd' : W → W → MH → QD → Prop} (ho : OpR X (compareOp op) r) (hd : OpD X.K r rd) (ho' : OpR X (compareOp op') r') (hd' : OpD X.K r' rd') (ha : PD X a ta) (hb : PD X b tb) (hc : PD X c tc)
    (hm : lastMarks [op, op'] [b, c] = false := by with_unfolding_all rfl) : PTd X (.Compare a [op, op'] [b, c] pos) (dTest (dChain rd rd' ta tb tc)) := pt_w (pt_chain ho ho' ha hb hc hm) fun σ H Q h => imp_test (fun _ _ _ q => imp_chain hd hd' q) h
/-- -a -/
def UnD (K : PySem.W.Frag) (r : V → Hp → VK → Prop) (rd : W → MH → QD → Prop) : Prop := ∀ x H w M Qd Q, RepW K H w x → MAbs K H M → rd w M Qd → Kont K H Qd Q → r x H Q
def dUn (rd : W → MH → QD → Prop) (ta : TD) (τ : DS) (M : MH) (Q : QD) : Prop := ta τ M fun w M1 => rd w M1 Q
theorem pd_un {op : UnaryOp} {r : V → Hp → VK → Prop} {rd : W → MH → QD → Prop} (ho : UnR X (unaryOp op) r) (hd : UnD X.K r rd) (ha : PD X a ta) : PD X (.UnaryOp op a pos) (dUn rd ta) := pe_w (pe_un ho ha) fun σ H Q h => by
  obtain ⟨τ, M, Qd, A, h, k⟩ := h
  exact ⟨τ, M, _, A, h, fun x H1 w M1 kp r1 m1 q1 => hd x H1 w M1 Qd Q r1 m1 q1 (kgo k kp)⟩

/-! ### and, or, not, if -/
variable {tA tB : TTd} {rest : List Expr}
def dAnd (t u : TTd) (τ : DS) (M : MH) (Q : Bool → MH → Prop) : Prop := t τ M fun k M1 => if k = true then u τ M1 Q else Q false M1
def dOr (t u : TTd) (τ : DS) (M : MH) (Q : Bool → MH → Prop) : Prop := t τ M fun k M1 => if k = true then Q true M1 else u τ M1 Q
def dNot (t : TTd) (τ : DS) (M : MH) (Q : Bool → MH → Prop) : Prop := t τ M fun k M1 => Q (!k) M1
abbrev PWd (X : Cx) (e : Expr) (t : TTd) : Prop := PW X e (upT X.K t)
theorem pw_w {e : Expr} {t t' : TT} (h : PW X e t) (k : ∀ σ H Q, t' σ H Q → t σ H Q) : PW X e t' := fun w pins s σ H Q I q => h w pins s σ H Q I (k σ H Q q)
theorem pwd_and1 (ha : PTd X a tA) : PWd X (.BoolOp .And [a] pos) tA := pw_and1 ha
theorem pwd_or1 (ha : PTd X a tA) : PWd X (.BoolOp .Or [a] pos) tA := pw_or1 ha
theorem pwd_and (ha : PTd X a tA) (hb : PWd X (.BoolOp .And (b :: rest) pos) tB) : PWd X (.BoolOp .And (a :: b :: rest) pos) (dAnd tA tB) := pw_w (pw_and ha hb) fun σ H Q h => by
  obtain ⟨τ, M, Qd, A, h, k⟩ := h
  refine ⟨τ, M, _, A, h, fun b H1 M1 kp m1 q1 => ?_⟩
  cases b with
  | true => rw [if_pos rfl] at q1 ⊢; exact ⟨τ, M1, Qd, A.go kp m1, q1, fun b H2 M2 kp2 m2 q2 => k b H2 M2 (kp.trans kp2) m2 q2⟩
  | false => rw [if_neg Bool.false_ne_true] at q1 ⊢; exact k _ H1 M1 kp m1 q1
theorem pwd_or (ha : PTd X a tA) (hb : PWd X (.BoolOp .Or (b :: rest) pos) tB) : PWd X (.BoolOp .Or (a :: b :: rest) pos) (dOr tA tB) := pw_w (pw_or ha hb) fun σ H Q h => by
  obtain ⟨τ, M, Qd, A, h, k⟩ := h
  refine ⟨τ, M, _, A, h, fun b H1 M1 kp m1 q1 => ?_⟩
  cases b with
  | false => rw [if_neg Bool.false_ne_true] at q1 ⊢; exact ⟨τ, M1, Qd, A.go kp m1, q1, fun b H2 M2 kp2 m2 q2 => k b H2 M2 (kp.trans kp2) m2 q2⟩
  | true => rw [if_pos rfl] at q1 ⊢; exact k _ H1 M1 kp m1 q1
theorem ptd_w (h : PWd X e tA) : PTd X e tA := h.pt
theorem ptd_not (ha : PTd X a tA) : PTd X (.UnaryOp .Not a pos) (dNot tA) := pt_w (pt_not ha) fun σ H Q h => by
  obtain ⟨τ, M, Qd, A, h, k⟩ := h
  exact ⟨τ, M, _, A, h, fun b H1 M1 kp m1 q1 => k (!b) H1 M1 kp m1 q1⟩
/-- .. as values (bools) -/
def dAndV (ta tb : TD) (τ : DS) (M : MH) (Q : QD) : Prop := ta τ M fun x M1 => ∃ k, x = .d (.bool k) ∧ if k = true then tb τ M1 Q else Q (.d (.bool false)) M1
def dOrV (ta tb : TD) (τ : DS) (M : MH) (Q : QD) : Prop := ta τ M fun x M1 => ∃ k, x = .d (.bool k) ∧ if k = true then Q (.d (.bool true)) M1 else tb τ M1 Q
def dNotV (ta : TD) (τ : DS) (M : MH) (Q : QD) : Prop := ta τ M fun x M1 => ∃ k, x = .d (.bool k) ∧ Q (.d (.bool (!k))) M1
theorem pd_one {op} (h : PD X a ta) : PD X (.BoolOp op [a] pos) ta := pe_one h
theorem pd_and (ha : PD X a ta) (hb : PD X (.BoolOp .And (b :: rest) pos) tb) : PD X (.BoolOp .And (a :: b :: rest) pos) (dAndV ta tb) := pe_w (pe_and ha hb) fun σ H Q h => by
  obtain ⟨τ, M, Qd, A, h, k⟩ := h
  refine ⟨τ, M, _, A, h, fun x H1 w M1 kp r1 m1 ⟨b, e, q1⟩ => ?_⟩
  subst e
  simp only [RepW, RepD] at r1
  refine ⟨b, r1, ?_⟩
  cases b with
  | true => rw [if_pos rfl] at q1 ⊢; exact ⟨τ, M1, Qd, A.go kp m1, q1, kgo k kp⟩
  | false => rw [if_neg Bool.false_ne_true] at q1 ⊢; exact k _ H1 _ M1 kp (by simp [RepW, RepD]) m1 q1
theorem pd_or (ha : PD X a ta) (hb : PD X (.BoolOp .Or (b :: rest) pos) tb) : PD X (.BoolOp .Or (a :: b :: rest) pos) (dOrV ta tb) := pe_w (pe_or ha hb) fun σ H Q h => by
  obtain ⟨τ, M, Qd, A, h, k⟩ := h
  refine ⟨τ, M, _, A, h, fun x H1 w M1 kp r1 m1 ⟨b, e, q1⟩ => ?_⟩
  subst e
  simp only [RepW, RepD] at r1
  refine ⟨b, r1, ?_⟩
  cases b with
  | false => rw [if_neg Bool.false_ne_true] at q1 ⊢; exact ⟨τ, M1, Qd, A.go kp m1, q1, kgo k kp⟩
  | true => rw [if_pos rfl] at q1 ⊢; exact k _ H1 _ M1 kp (by simp [RepW, RepD]) m1 q1
theorem pd_not (ha : PD X a ta) : PD X (.UnaryOp .Not a pos) (dNotV ta) := pe_w (pe_not ha) fun σ H Q h => by
  obtain ⟨τ, M, Qd, A, h, k⟩ := h
  refine ⟨τ, M, _, A, h, fun x H1 w M1 kp r1 m1 ⟨b, e, q1⟩ => ?_⟩
  subst e
  simp only [RepW, RepD] at r1
  exact ⟨b, r1, k _ H1 _ M1 kp (by simp [RepW, RepD]) m1 q1⟩
def dIfE (t : TTd) (ta tb : TD) (τ : DS) (M : MH) (Q : QD) : Prop := t τ M fun k M1 => if k = true then ta τ M1 Q else tb τ M1 Q
theorem pd_ifExp {c : Expr} (hc : PTd X c tA) (ha : PD X a ta) (hb : PD X b tb) : PD X (.IfExp c a b pos) (dIfE tA ta tb) := pe_w (pe_ifExp hc ha hb) fun σ H Q h => by
  obtain ⟨τ, M, Qd, A, h, k⟩ := h
  refine ⟨τ, M, _, A, h, fun b H1 M1 kp m1 q1 => ?_⟩
  cases b with
  | true => rw [if_pos rfl] at q1 ⊢; exact ⟨τ, M1, Qd, A.go kp m1, q1, kgo k kp⟩
  | false => rw [if_neg Bool.false_ne_true] at q1 ⊢; exact ⟨τ, M1, Qd, A.go kp m1, q1, kgo k kp⟩

/-! ### arguments, displays -/
variable {es : List Expr} {t : TAd}
def dNil (_ : DS) (M : MH) (Q : List W → MH → Prop) : Prop := Q [] M
def dCons (ta : TD) (tr : TAd) (τ : DS) (M : MH) (Q : List W → MH → Prop) : Prop := ta τ M fun w M1 => tr τ M1 fun ws M2 => Q (w :: ws) M2
theorem pad_nil : PAd X [] dNil := pa_w pa_nil fun σ H Q ⟨τ, M, Qd, A, h, k⟩ => k [] H [] M (Kp.refl H) .nil A.mem h
theorem pad_cons (ha : PD X e te) (hr : PAd X es t) (hs : starEach (e :: es) X.env = (false, eval e X.env) :: starEach es X.env := by rfl) : PAd X (e :: es) (dCons te t) := pa_w (pa_cons ha hr hs) fun σ H Q h => by
  obtain ⟨τ, M, Qd, A, h, k⟩ := h
  exact ⟨τ, M, _, A, h, fun x H1 w M1 kp r1 m1 q1 => ⟨τ, M1, _, A.go kp m1, q1, fun xs H2 ws M2 kp2 r2 m2 q2 => k _ H2 _ M2 (kp.trans kp2) (.cons (r1.keep kp2) r2) m2 q2⟩⟩
/-- all of them data -/
def datas : List W → Option (List PyData)
  | [] => some []
  | .d x :: r => (datas r).map (x :: ·)
  | _ :: _ => none
theorem datas_eq : ∀ {ws : List W} {ds : List PyData}, datas ws = some ds → ws = ds.map W.d
  | [], ds, h => by simp only [datas] at h; cases h; rfl
  | .d x :: r, ds, h => by
    simp only [datas] at h
    cases q : datas r with
    | none => rw [q] at h; cases h
    | some l => rw [q] at h; cases h; rw [datas_eq q]; rfl
  | .m _ :: _, ds, h => by simp [datas] at h
  | .t _ :: _, ds, h => by simp [datas] at h
theorem datas_map : ∀ (ds : List PyData), datas (ds.map W.d) = some ds
  | [] => rfl
  | d :: ds => by simp only [List.map_cons, datas, datas_map ds, Option.map_some]
/-- [..] that never changes -/
def dLst (t : TAd) (τ : DS) (M : MH) (Q : QD) : Prop := t τ M fun ws M1 => ∃ ds, datas ws = some ds ∧ ds.length ≤ sizeLine ∧ Q (.d (.list ds)) M1
theorem frz_new {H : Hp} {p : Addr} {o : Obj} {vs : List V} {ds : List PyData} (hp : H p = none) (r : RepA K H ds vs) : RepD K (upd H p (.frz o (.lst vs))) (.list ds) (.ref p) := by
  simp only [RepD]
  exact ⟨p, vs, rfl, .inl ⟨o, upd_same⟩, r.keep (Kp.new hp)⟩
theorem imp_frz {H : Hp} {vs : List V} {ds : List PyData} {M : MH} {Qd : QD} {Q : VK} {p : Addr} (hp : H p = none) (r : RepA K H ds vs) (m : MAbs K H M) (q : Qd (.d (.list ds)) M) (k : Kont K H Qd Q) :
    ∃ p' u, V.ref p = .ref p' ∧ (upd H p (.lst vs)) p' = some u ∧ Fz u ∧ ∀ o, Q (.ref p) (upd (upd H p (.lst vs)) p' (.frz o u)) := by
  refine ⟨p, _, rfl, upd_same, trivial, fun o => ?_⟩
  rw [upd_upd]
  exact k _ _ (.d (.list ds)) M (Kp.new hp) (frz_new hp r) (m.new hp) q
theorem pd_lst (h : PAd X es t) : PD X (.List es pos) (dLst t) := pe_w (pe_frz (pe_lst h)) fun σ H Q h => by
  obtain ⟨τ, M, Qd, A, h, k⟩ := h
  refine ⟨τ, M, _, A, h, fun vs H1 ws M1 kp r1 m1 ⟨ds, e, hz, q1⟩ => ?_⟩
  have e' := datas_eq e
  subst e'
  have rA := r1.data
  exact ⟨by rw [rA.length]; exact hz, fun p hp => imp_frz hp rA m1 q1 (kgo k kp)⟩
/-- [..] that may change -/
def dLstM (t : TAd) (τ : DS) (M : MH) (Q : QD) : Prop := t τ M fun ws M1 => ws.length ≤ sizeLine ∧ ∀ p, M1 p = none → Q (.m p) (updM M1 p (.lst ws))
theorem pd_lstM (h : PAd X es t) : PD X (.List es pos) (dLstM t) := pe_w (pe_lst h) fun σ H Q h => by
  obtain ⟨τ, M, Qd, A, h, k⟩ := h
  refine ⟨τ, M, _, A, h, fun vs H1 ws M1 kp r1 m1 ⟨hz, q1⟩ => ⟨by rw [← r1.length]; exact hz, fun p hp => ?_⟩⟩
  exact k _ _ (.m p) (updM M1 p (.lst ws)) (kp.trans (Kp.new hp)) rfl (m1.put (mo := .lst ws) (Kp.new hp) ⟨vs, upd_same, r1.keep (Kp.new hp)⟩) (q1 p (m1.free hp))
def dTup (t : TAd) (τ : DS) (M : MH) (Q : QD) : Prop := t τ M fun ws M1 => ∃ ds, datas ws = some ds ∧ ds.length ≤ sizeLine ∧ Q (.d (.tuple ds)) M1
theorem pd_tup {x1} (h : PAd X es t) : PD X (.Tuple es x1 pos) (dTup t) := pe_w (pe_tup h) fun σ H Q h => by
  obtain ⟨τ, M, Qd, A, h, k⟩ := h
  refine ⟨τ, M, _, A, h, fun vs H1 ws M1 kp r1 m1 ⟨ds, e, hz, q1⟩ => ?_⟩
  have e' := datas_eq e
  subst e'
  have rA := r1.data
  refine ⟨by rw [rA.length]; exact hz, fun p hp => k _ _ (.d (.tuple ds)) M1 (kp.trans (Kp.new hp)) ?_ (m1.new hp) q1⟩
  simp only [RepW, RepD]
  exact ⟨p, vs, rfl, .inl (.inl upd_same), rA.keep (Kp.new hp)⟩

/-! ### calls of what is built in -/
variable {x : Str} {p : Pos} {id T : String} {r : List V → Hp → VK → Prop} {rd : List W → MH → QD → Prop}
def CallD (K : PySem.W.Frag) (r : List V → Hp → VK → Prop) (rd : List W → MH → QD → Prop) : Prop := ∀ vs H ws M Qd Q, RepWs K H ws vs → MAbs K H M → rd ws M Qd → Kont K H Qd Q → r vs H Q
def dCB (rd : List W → MH → QD → Prop) (t : TAd) (τ : DS) (M : MH) (Q : QD) : Prop := t τ M fun ws M1 => rd ws M1 Q
theorem imp_cb (hd : CallD K r rd) {σ : St} {H : Hp} {Q : VK} (h : up K (dCB rd t) σ H Q) : tCB r (upA K t) σ H Q := by
  obtain ⟨τ, M, Qd, A, h, k⟩ := h
  exact ⟨τ, M, _, A, h, fun vs H1 ws M1 kp r1 m1 q1 => hd vs H1 ws M1 Qd Q r1 m1 q1 (kgo k kp)⟩
theorem pd_callB (hc : CallR X (.builtin id) r) (hd : CallD X.K r rd) (hg : Gl X x) (hm : X.mg x = none) (hv : bootBuiltins x = some (.builtin id)) (ha : PAd X (e :: es) t) (hn : x ≠ "__name__" := by decide) (hdb : (x == ("__debug__" : Str)) = false := by decide)
    (he : starEach (e :: es) X.env = (false, eval e X.env) :: starEach es X.env := by rfl) (hpl : (backTo pos (starEach es X.env)).any (·.1) = false := by rfl) : PD X (.Call (.Name x p) (e :: es) [] pos) (dCB rd t) :=
  pe_w (pe_callB hc hg hm hv ha hn hdb he hpl) fun σ H Q h => imp_cb hd h
theorem pd_callTy (hc : CallR X (.type T) r) (hd : CallD X.K r rd) (hg : Gl X x) (hm : X.mg x = none) (hv : bootBuiltins x = some (.type T)) (ha : PAd X (e :: es) t) (hn : x ≠ "__name__" := by decide) (hdb : (x == ("__debug__" : Str)) = false := by decide)
    (he : starEach (e :: es) X.env = (false, eval e X.env) :: starEach es X.env := by rfl) (hpl : (backTo pos (starEach es X.env)).any (·.1) = false := by rfl) : PD X (.Call (.Name x p) (e :: es) [] pos) (dCB rd t) :=
  pe_w (pe_callTy hc hg hm hv ha hn hdb he hpl) fun σ H Q h => imp_cb hd h
end

/-! ### statements -/
section
variable {X : Cx} {pos : Pos} {st : Stmt} {sts : List Stmt} {t u : TSd} {e : Expr} {te : TD} {K : PySem.W.Frag}
def dNext (D : Ed) (τ : DS) (M : MH) : Prop := D.nx τ M
def dSeq (t u : TSd) (D : Ed) (τ : DS) (M : MH) : Prop := t { D with nx := u D } τ M
theorem pssd_nil : PSsd X [] dNext := pss_w pss_nil fun D σ H ⟨τ, M, Dd, A, h, k1, _⟩ => k1 σ H τ M (Kp.refl H) A h
theorem pssd_cons (h1 : PSd X st t) (h2 : PSsd X sts u) : PSsd X (st :: sts) (dSeq t u) := pss_w (pss_cons h1 h2) fun D σ H ⟨τ, M, Dd, A, h, k1, k2, k3, k4⟩ =>
  ⟨τ, M, { Dd with nx := u Dd }, A, h, fun σ' H' τ' M' kp A' q => ⟨τ', M', Dd, A', q, fun σ2 H2 τ2 M2 kp2 => k1 σ2 H2 τ2 M2 (kp.trans kp2), fun v H2 w M2 kp2 => k2 v H2 w M2 (kp.trans kp2), fun σ2 H2 τ2 M2 kp2 => k3 σ2 H2 τ2 M2 (kp.trans kp2), fun σ2 H2 τ2 M2 kp2 => k4 σ2 H2 τ2 M2 (kp.trans kp2)⟩, k2, k3, k4⟩
theorem pssd_one (h1 : PSd X st t) : PSsd X [st] t := pss_one h1
theorem psd_pass : PSd X (.Pass pos) dNext := ps_w ps_pass fun D σ H ⟨τ, M, Dd, A, h, k1, _⟩ => k1 σ H τ M (Kp.refl H) A h
def dDrop (te : TD) (D : Ed) (τ : DS) (M : MH) : Prop := te τ M fun _ M1 => D.nx τ M1
theorem psd_expr (he : PD X e te) (hs : swapsWith e none pos.line X.env = pure false := by rfl) : PSd X (.Expr e pos) (dDrop te) := ps_w (ps_expr he hs) fun D σ H ⟨τ, M, Dd, A, h, k1, _⟩ =>
  ⟨τ, M, _, A, h, fun v H1 w M1 kp r m q => k1 σ H1 τ M1 kp (A.go kp m) q⟩
def dRet (te : TD) (D : Ed) (τ : DS) (M : MH) : Prop := te τ M D.rt
theorem psd_ret (he : PD X e te) : PSd X (.Return (some e) pos) (dRet te) := ps_w (ps_ret he) fun D σ H ⟨τ, M, Dd, A, h, k1, k2, _⟩ => ⟨τ, M, _, A, h, fun v H1 w M1 kp r m q => k2 v H1 w M1 kp r m q⟩
def dRetN (D : Ed) (_ : DS) (M : MH) : Prop := D.rt (.d .none) M
theorem psd_retN : PSd X (.Return none pos) dRetN := ps_w ps_retN fun D σ H ⟨τ, M, Dd, A, h, k1, k2, _⟩ => k2 _ H _ M (Kp.refl H) (by simp [RepW, RepD]) A.mem h
def dIf (c : TTd) (t u : TSd) (D : Ed) (τ : DS) (M : MH) : Prop := c τ M fun b M1 => if b = true then t D τ M1 else u D τ M1
theorem psd_if {c : Expr} {a b : List Stmt} {tc : TTd} (hc : PTd X c tc) (ha : PSsd X a t) (hb : PSsd X b u) : PSd X (.If c a b pos) (dIf tc t u) := ps_w (ps_if hc ha hb) fun D σ H ⟨τ, M, Dd, A, h, k1, k2, k3, k4⟩ => by
  refine ⟨τ, M, _, A, h, fun b H1 M1 kp m q => ?_⟩
  have go : ∀ {t' : TSd}, t' Dd τ M1 → upS X.K t' D σ H1 := fun {t'} q => ⟨τ, M1, Dd, A.go kp m, q, fun σ2 H2 τ2 M2 kp2 => k1 σ2 H2 τ2 M2 (kp.trans kp2), fun v H2 w M2 kp2 => k2 v H2 w M2 (kp.trans kp2), fun σ2 H2 τ2 M2 kp2 => k3 σ2 H2 τ2 M2 (kp.trans kp2), fun σ2 H2 τ2 M2 kp2 => k4 σ2 H2 τ2 M2 (kp.trans kp2)⟩
  cases b with
  | true => rw [if_pos rfl] at q; show (if true = true then upS X.K t D σ H1 else upS X.K u D σ H1); rw [if_pos rfl]; exact go q
  | false => rw [if_neg Bool.false_ne_true] at q; show (if false = true then upS X.K t D σ H1 else upS X.K u D σ H1); rw [if_neg Bool.false_ne_true]; exact go q
/-- targets -/
abbrev TGd := W → DS → MH → (DS → MH → Prop) → Prop
def upG (K : PySem.W.Frag) (g : TGd) : TG := fun v σ H Q => ∃ w τ M Qd, RepW K H w v ∧ Abs K H σ τ M ∧ g w τ M Qd ∧ ∀ σ' H' τ' M', Kp H H' → Abs K H' σ' τ' M' → Qd τ' M' → Q σ' H'
abbrev PGd (X : Cx) (e : Expr) (g : TGd) : Prop := PG X e (upG X.K g)
theorem pg_w {e : Expr} {g g' : TG} (h : PG X e g) (k : ∀ v σ H Q, g' v σ H Q → g v σ H Q) : PG X e g' := fun pins s σ H v u Q I r q => h pins s σ H v u Q I r (k v σ H Q q)
def gN (i : Nat) (w : W) (τ : DS) (M : MH) (Q : DS → MH → Prop) : Prop := Q (τ.set i (some w)) M
theorem pgd_name {i : Nat} {x : Str} (hN : X.N.Nodup) (hi : X.N[i]? = some x) (hx : Loc X.env.scope x) (hf : X.fn x = true ∨ X.env.scope.names.lookup x = some .local := by first | exact .inl rfl | exact .inr rfl | assumption) : PGd X (.Name x pos) (gN i) :=
  pg_w (pg_name hN hi hx hf) fun v σ H Q ⟨w, τ, M, Qd, r, A, h, k⟩ => k _ H _ M (Kp.refl H) (A.set i r) h
def dAsg (te : TD) (g : TGd) (D : Ed) (τ : DS) (M : MH) : Prop := te τ M fun w M1 => g w τ M1 D.nx
theorem imp_asg {g : TGd} {D : Ends} {σ : St} {H : Hp} (h : upS K (dAsg te g) D σ H) : tAsg (up K te) (upG K g) D σ H := by
  obtain ⟨τ, M, Dd, A, h, k1, _⟩ := h
  exact ⟨τ, M, _, A, h, fun v H1 w M1 kp r m q => ⟨w, τ, M1, _, r, A.go kp m, q, fun σ2 H2 τ2 M2 kp2 A2 q2 => k1 σ2 H2 τ2 M2 (kp.trans kp2) A2 q2⟩⟩
theorem psd_asg {tg : Expr} {g : TGd} (he : PD X e te) (hg : PGd X tg g) (hs : swapsWithSole [tg] e pos.line X.env = pure false := by rfl) (hw : swappedStores [tg] e X.env = pure none := by rfl)
    (h1 : (assignEach [tg] X.env).map (·.2) = [assign tg X.env] := by rfl) : PSd X (.Assign [tg] e pos) (dAsg te g) := ps_w (ps_asg he hg hs hw h1) fun D σ H h => imp_asg h
theorem psd_set {i : Nat} {x : Str} {pos' : Pos} (hN : X.N.Nodup) (hi : X.N[i]? = some x) (hx : Loc X.env.scope x) (he : PD X e te) (hs : swapsWith e (some (.Name x pos')) pos.line X.env = pure false := by rfl) (hf : X.fn x = true ∨ X.env.scope.names.lookup x = some .local := by first | exact .inl rfl | exact .inr rfl | assumption) :
    PSd X (.Assign [.Name x pos'] e pos) (dAsg te (gN i)) := ps_w (ps_set hN hi hx he hs hf) fun D σ H ⟨τ, M, Dd, A, h, k1, _⟩ =>
  ⟨τ, M, _, A, h, fun v H1 w M1 kp r m q => k1 _ H1 _ M1 kp ((A.go kp m).set i r) q⟩
end

/-! ### defs -/
abbrev SpD := List W → MH → QD → Prop
def upSp (K : PySem.W.Frag) (sp : SpD) : Sp := fun vs H Q _ => ∃ ws M Qd, RepWs K H ws vs ∧ MAbs K H M ∧ sp ws M Qd ∧ Kont K H Qd Q
section
variable {X : Cx} {pos p : Pos} {k : Nat} {f : Addr} {fd : FuncData} {ps : List Str} {sp : SpD} {x : Str} {e : Expr} {es : List Expr} {t : TAd}
def dCall (sp : SpD) (t : TAd) (τ : DS) (M : MH) (Q : QD) : Prop := t τ M fun ws M1 => sp ws M1 Q
theorem pd_call (F : FnOk X.prog X.w X.K X.mg X.base CX0 k f fd ps (upSp X.K sp)) (hr : Room k X.A) (hg : Gl X x) (hm : X.mg x = some (.ref f)) (hk : PySem.W.keepIn X.K (.ref f) = true) (hb : Binds X.K fd ps [])
    (ha : PAd X (e :: es) t) (hdb : (x == ("__debug__" : Str)) = false := by decide) (he : starEach (e :: es) X.env = (false, eval e X.env) :: starEach es X.env := by rfl) (hpl : (backTo pos (starEach es X.env)).any (·.1) = false := by rfl) :
    PD X (.Call (.Name x p) (e :: es) [] pos) (dCall sp t) := pe_w (pe_call (E := E0) (dvs := []) F hr hg hm hk hb .nil pass0 ha hdb he hpl) fun σ H Q h => by
  obtain ⟨τ, M, Qd, A, h, k⟩ := h
  exact ⟨τ, M, _, A, h, fun vs H1 ws M1 kp r1 m1 q1 => ⟨ws, M1, Qd, by rw [List.append_nil]; exact r1, m1, q1, kgo k kp⟩⟩
theorem pd_call0 (F : FnOk X.prog X.w X.K X.mg X.base CX0 k f fd ps (upSp X.K sp)) (hr : Room k X.A) (hg : Gl X x) (hm : X.mg x = some (.ref f)) (hk : PySem.W.keepIn X.K (.ref f) = true) (hb : Binds X.K fd ps [])
    (hdb : (x == ("__debug__" : Str)) = false := by decide) : PD X (.Call (.Name x p) [] [] pos) (dCall sp dNil) := pe_w (pe_call0 (E := E0) (dvs := []) F hr hg hm hk hb .nil pass0 hdb) fun σ H Q h => by
  obtain ⟨τ, M, Qd, A, h, k⟩ := h
  exact ⟨[], M, Qd, .nil, A.mem, h, k⟩
end
def startD (N : List Str) (ws : List W) : DS := ws.map some ++ List.replicate (N.length - ws.length) none
section
variable {P : Program} {w : World} {K : PySem.W.Frag} {mg : Str → Option Value} {base : Heap}
theorem abs_start {H : Hp} {N : List Str} {ws : List W} {vs : List V} {M : MH} (r : RepWs K H ws vs) (m : MAbs K H M) : Abs K H (start N vs) (startD N ws) M := by
  have hl := r.length
  refine ⟨?_, fun i w e => ?_, m⟩
  · simp [L2.start, startD, hl]
  · unfold startD at e
    by_cases hi : i < ws.length
    · rw [List.getElem?_append_left (by simpa using hi), List.getElem?_map] at e
      cases q : ws[i]? with
      | none => rw [q] at e; cases e
      | some w' =>
        rw [q] at e
        cases e
        obtain ⟨v, e1, r1⟩ := r.get q
        refine ⟨v, ?_, r1⟩
        unfold L2.start
        rw [List.getElem?_append_left (by rw [List.length_map, ← hl]; exact hi), List.getElem?_map, e1]
        rfl
    · rw [List.getElem?_append_right (by simpa using hi), List.getElem?_replicate] at e
      split at e <;> cases e
/-- THE RULE for a def, over data: its body's reading t (one for all entries), and that the promise reads as t -/
theorem fun_ok {x qual : Str} {st : Stmt} {f : Addr} {fd : FuncData} {N ps : List Str} {k : Nat} {sp : SpD} {t : TSd} (F : Fun K x qual st f fd) (S : FnScope N ps (defScope st)) (len : ∀ ws M Q, sp ws M Q → ws.length = ps.length)
    (hbody : ∀ (cdv : Value) (A : Around) (outer : List Env) (s : Shared) (H : Hp) (E : XK), Room k (A.deeper (envOfC qual (defScope st) s.heap.objs.size f cdv)) →
      PSsd (cxOf CX0 P w K mg base N qual (defScope st) f cdv A outer s H E).nox (defBody st) t)
    (read : ∀ ws M Q, sp ws M Q → t { nx := fun _ M' => Q (.d .none) M', rt := Q } (startD N ws) M) : FnOk P w K mg base CX0 (k + 1) f fd ps (upSp K sp) := by
  refine F.ok S (fun vs H Q E h => ?_) (fun cdv A outer s H vs Q E hr h => ?_)
  · obtain ⟨ws, M, Qd, r, _, q, _⟩ := h
    rw [← r.length]
    exact len _ _ _ q
  · obtain ⟨ws, M, Qd, r, m, q, kk⟩ := h
    refine ⟨_, hbody cdv A outer s H E hr, startD N ws, M, _, abs_start r m, read ws M Qd q, fun σ' H' τ' M' kp A' q' => ?_, fun v H' w' M' kp r' m' q' => ?_, fun σ' H' τ' M' kp A' q' => q'.elim, fun σ' H' τ' M' kp A' q' => q'.elim⟩
    · exact kk _ H' _ M' kp (by simp [RepW, RepD]) A'.mem q'
    · exact kk v H' w' M' kp r' m' q'
end
end D

set_option Elab.async false
set_option linter.all false
set_option maxRecDepth 100000
set_option maxHeartbeats 4000000
namespace D
open PySem PySem.Spec PyProof.Rows L2
section
variable {X : Cx} {pins : List (Addr × Obj)} {σ : St} {H : Hp} {s : Shared}
/-! ### what a value bears, as the library reads it -/
mutual
theorem reads_of (I : Inv X pins σ H s) : ∀ (d : PyData) {x : V} {u : Value}, RepD X.K H d x → RelV x u → d.hasDict = false → ∃ as, Reads s.heap u d as
  | .none, x, u, h, r, _ => by
    simp only [RepD] at h; subst h
    cases (show u = Value.none from r)
    exact ⟨_, .none⟩
  | .bool b, x, u, h, r, _ => by
    simp only [RepD] at h; subst h
    cases (show u = Value.bool b from r)
    exact ⟨_, .bool b⟩
  | .int i, x, u, h, r, _ => by
    simp only [RepD] at h; subst h
    obtain ⟨t, e⟩ := (show ∃ t, u = Value.int i t from r)
    subst e
    exact ⟨_, .int i t⟩
  | .str z, x, u, h, r, _ => by
    simp only [RepD] at h; subst h
    obtain ⟨t, e⟩ := (show ∃ t, u = Value.str z t from r)
    subst e
    exact ⟨_, .str z t⟩
  | .list ds, x, u, h, r, hd => by
    simp only [RepD] at h
    obtain ⟨a, vs, e, hs, ra⟩ := h
    subst e
    cases (show u = Value.ref a from r)
    obtain ⟨its, rv, ⟨o, n, e1, e2, e3, e4⟩, hz⟩ := I.list hs.sq
    obtain ⟨as, q⟩ := readsA_of I ds ra rv (by simpa [PyData.hasDict] using hd)
    exact ⟨_, .list e1 e2 e4 (by simpa using q)⟩
  | .tuple ds, x, u, h, r, hd => by
    simp only [RepD] at h
    obtain ⟨a, vs, e, hs, ra⟩ := h
    subst e
    cases (show u = Value.ref a from r)
    obtain ⟨its, rv, ⟨o, e1, e2, n, e4⟩, hz⟩ := I.tuple hs
    obtain ⟨as, q⟩ := readsA_of I ds ra rv (by simpa [PyData.hasDict] using hd)
    exact ⟨_, .tuple e1 e2 e4 (by simpa using q)⟩
  | .dict kvs, x, u, h, r, hd => by simp [PyData.hasDict] at hd
theorem readsA_of (I : Inv X pins σ H s) : ∀ (ds : List PyData) {xs : List V} {us : List Value}, RepA X.K H ds xs → Vals xs us → PyData.hasDictAll ds = false → ∃ as, ReadsAll s.heap us ds as
  | [], xs, us, h, r, _ => by
    simp only [RepA] at h; subst h
    cases r
    exact ⟨_, .nil⟩
  | d :: ds, xs, us, h, r, hd => by
    simp only [RepA] at h
    obtain ⟨v, vr, e, h1, h2⟩ := h
    subst e
    simp only [PyData.hasDictAll, Bool.or_eq_false_iff] at hd
    cases r with
    | cons r1 r2 =>
      obtain ⟨as, q1⟩ := reads_of I d h1 r1 hd.1
      obtain ⟨bs, q2⟩ := readsA_of I ds h2 r2 hd.2
      exact ⟨_, .cons q1 q2⟩
end

def flatD : PyData → Bool
  | .none | .bool _ | .int _ | .str _ => true
  | _ => false
theorem reads_flat : ∀ {d : PyData} {x : V} {u : Value} {h : Heap} {K : PySem.W.Frag} {H : Hp}, flatD d = true → RepD K H d x → RelV x u → Reads h u d []
  | .none, x, u, h, K, H, _, e, r => by simp only [RepD] at e; subst e; cases (show u = Value.none from r); exact .none
  | .bool b, x, u, h, K, H, _, e, r => by simp only [RepD] at e; subst e; cases (show u = Value.bool b from r); exact .bool b
  | .int i, x, u, h, K, H, _, e, r => by simp only [RepD] at e; subst e; obtain ⟨t, z⟩ := (show ∃ t, u = Value.int i t from r); subst z; exact .int i t
  | .str i, x, u, h, K, H, _, e, r => by simp only [RepD] at e; subst e; obtain ⟨t, z⟩ := (show ∃ t, u = Value.str i t from r); subst z; exact .str i t
  | .list _, _, _, _, _, _, f, _, _ => nomatch f
  | .tuple _, _, _, _, _, _, f, _, _ => nomatch f
  | .dict _, _, _, _, _, _, f, _, _ => nomatch f
theorem pairs_reads {P : Program} {w : World} {h : Heap} {K : PySem.W.Frag} {H : Hp} : ∀ {kvs : List (PyData × PyData)} {l : List (Key × V)} {vs : List (Key × Value)} {es : List DictEntry}, (kvs.all fun p => flatD p.2) = true → RepK K H kvs l → KV l vs → Pairs (mixKind P w) es vs →
    ReadsAll h (es.map (·.key)) (kvs.map (·.1)) [] ∧ ReadsAll h (es.map (·.val)) (kvs.map (·.2)) []
  | [], l, vs, es, _, r, kv, p => by
    simp only [RepK] at r; subst r
    cases kv
    cases p
    exact ⟨.nil, .nil⟩
  | (k, d) :: kvs, l, vs, es, f, r, kv, p => by
    simp only [RepK] at r
    obtain ⟨key, v, lr, e, ek, r1, r2⟩ := r
    subst e
    rw [List.all_cons, Bool.and_eq_true] at f
    cases kv with
    | cons q1 q2 =>
      rename_i kv0 vs0
      obtain ⟨k0, u0⟩ := kv0
      obtain ⟨q1, q3⟩ := q1
      cases p with
      | cons p1 p2 p3 =>
        rename_i en es0
        obtain ⟨i1, i2⟩ := pairs_reads f.2 r2 q2 p3
        have rk : Reads h en.key k [] := by
          have hk : keyIs k0 en.key = true := p1
          have hk0 : key = k0 := q1
          subst hk0
          rw [ek]
          rcases keyIs_shape hk with ⟨i, t, z1, z2⟩ | ⟨i, t, z1, z2⟩
          · subst z1; rw [z2]; exact .int i t
          · subst z1; rw [z2]; exact .str i t
        have rv : Reads h en.val d [] := by
          rw [p2]
          exact reads_flat f.1 r1 q3
        exact ⟨.cons rk i1, .cons rv i2⟩
/-- what repr is told of -/
def reprOk (d : PyData) : Bool := d.showable && decide (d.shown.length ≤ sizeLine) && decide (d.depth ≤ 60) && (!d.hasDict || match d with
  | .dict kvs => kvs.all fun p => flatD p.2
  | _ => false)
theorem reads_repr (I : Inv X pins σ H s) {d : PyData} {x : V} {u : Value} (h : RepD X.K H d x) (r : RelV x u) (ok : reprOk d = true) : ∃ as, Reads s.heap u d as ∧ (d.hasDict = true → sysModules ∉ as) := by
  simp only [reprOk, Bool.and_eq_true, Bool.or_eq_true] at ok
  cases hd : d.hasDict with
  | false =>
    obtain ⟨as, q⟩ := reads_of I d h r hd
    exact ⟨as, q, fun z => absurd z (by simp)⟩
  | true =>
    have f := ok.2.resolve_left (by simp [hd])
    cases d with
    | dict kvs =>
      simp only [RepD] at h
      obtain ⟨a, o, l, e, ha, rk⟩ := h
      subst e
      cases (show u = Value.ref a from r)
      obtain ⟨z, hs, vs, kv, o', es, ep, e1, e2, e3, e4, e5, e6⟩ := dk_rd I.hok (.inr ⟨o, ha⟩)
      obtain ⟨q1, q2⟩ := pairs_reads (h := s.heap) f rk kv e5
      refine ⟨_, .dict e1 e2.1 e3 q1 q2, fun _ hm => ?_⟩
      simp only [List.append_nil] at hm
      have hm' : sysModules = a := by simpa using hm
      rw [← hm'] at hs
      simp at hs
    | _ => exact absurd f (by simp)
theorem call_reprD {k : Nat} (hr : Room k X.A) : CallR X (.builtin "repr") (fun xs H Q => ∃ x d, xs = [x] ∧ RepD X.K H d x ∧ reprOk d = true ∧ Q (.str d.shown) H) := by
  intro pins s σ H xs us Q I r h
  obtain ⟨x, d, rfl, rd, ok, q⟩ := h
  obtain ⟨u, rfl, rx⟩ := vals1 r
  obtain ⟨as, rr, hsm⟩ := reads_repr I rd rx ok
  have ok' := ok
  simp only [reprOk, Bool.and_eq_true, decide_eq_true_eq] at ok'
  obtain ⟨⟨⟨hs, hz⟩, hd⟩, _⟩ := ok'
  have hu := hr.units
  cases rr with
  | none => exact PySem.P.repr_of_none ⟨.str _, H, I.tok _, ⟨_, rfl⟩, by simpa [PyData.shown] using q⟩
  | bool b => exact PySem.P.repr_of_bool ⟨.str _, H, I.tok _, ⟨_, rfl⟩, by simpa [PyData.shown] using q⟩
  | int i t =>
    refine PySem.P.repr_of_int (by simpa [PyData.showable] using hs) ⟨.str _, H, I.tok _, ⟨_, rfl⟩, ?_⟩
    rw [PyData.shown] at q
    exact q
  | str i t =>
    refine PySem.P.repr_of_str ⟨.str _, H, I.tok _, ⟨_, rfl⟩, ?_⟩ (by simpa [PyData.shown] using hz)
    rw [PyData.shown] at q
    exact q
  | list e1 e2 e3 e4 => exact repr_of_reads' (.list e1 e2 e3 e4) hs hsm hr.gd (by omega) (fun _ _ z => z) (fun h' u tk hk => ⟨.str _, H, I.kept hk, ⟨_, rfl⟩, q⟩) hz
  | tuple e1 e2 e3 e4 => exact repr_of_reads' (.tuple e1 e2 e3 e4) hs hsm hr.gd (by omega) (fun _ _ z => z) (fun h' u tk hk => ⟨.str _, H, I.kept hk, ⟨_, rfl⟩, q⟩) hz
  | dict e1 e2 e3 e4 e5 => exact repr_of_reads' (.dict e1 e2 e3 e4 e5) hs hsm hr.gd (by omega) (fun _ _ z => z) (fun h' u tk hk => ⟨.str _, H, I.kept hk, ⟨_, rfl⟩, q⟩) hz
/-! ### == and != of data -/
def eqOk (d : PyData) : Bool := SeqAt.shaped d && !d.hasDict
/-- two texts, or two data that the library compares -/
def eqOk2 : PyData → PyData → Bool
  | .str _, .str _ => true
  | d, d' => eqOk d && eqOk d'
theorem eqOk2_cases {d d' : PyData} (h : eqOk2 d d' = true) : (∃ x y, d = .str x ∧ d' = .str y) ∨ (eqOk d = true ∧ eqOk d' = true) := by
  cases d with
  | str x =>
    cases d' with
    | str y => exact .inl ⟨x, y, rfl, rfl⟩
    | _ => exact .inr (by simpa [eqOk2] using h)
  | _ => exact .inr (by simpa [eqOk2] using h)
theorem str_dec (x y : Str) : decide (V.str x = V.str y) = PyData.eqv (.str x) (.str y) := by
  rw [PyData.eqv]
  by_cases e : x = y
  · subst e; simp
  · rw [decide_eq_false (fun z => e (V.str.inj z))]
    exact (beq_eq_false_iff_ne.mpr e).symm
theorem op_eqD {k : Nat} (hr : Room k X.A) : OpR X (compareOp .Eq) (fun x y H Q => ∃ d d', RepD X.K H d x ∧ RepD X.K H d' y ∧ eqOk2 d d' = true ∧ Q (.bl (PyData.eqv d d')) H) := by
  intro pins s σ H x y v u Q I rx ry h
  obtain ⟨d, d', h1, h2, o, q⟩ := h
  rcases eqOk2_cases o with ⟨a, b, e1, e2⟩ | ⟨o1, o2⟩
  · subst e1; subst e2
    simp only [RepD] at h1 h2
    subst h1; subst h2
    exact op_eq pins s σ H _ _ v u Q I rx ry ⟨rfl, by rw [str_dec]; exact q⟩
  simp only [eqOk, Bool.and_eq_true, Bool.not_eq_true'] at o1 o2
  obtain ⟨as, r1⟩ := reads_of I d h1 rx o1.2
  obtain ⟨bs, r2⟩ := reads_of I d' h2 ry o2.2
  exact eq_dataH r1 r2 o1.1 o2.1 hr.units ⟨.bl _, H, I, rfl, q⟩
theorem op_neD {k : Nat} (hr : Room k X.A) : OpR X (compareOp .NotEq) (fun x y H Q => ∃ d d', RepD X.K H d x ∧ RepD X.K H d' y ∧ eqOk2 d d' = true ∧ Q (.bl (!PyData.eqv d d')) H) := by
  intro pins s σ H x y v u Q I rx ry h
  obtain ⟨d, d', h1, h2, o, q⟩ := h
  rcases eqOk2_cases o with ⟨a, b, e1, e2⟩ | ⟨o1, o2⟩
  · subst e1; subst e2
    simp only [RepD] at h1 h2
    subst h1; subst h2
    exact op_ne pins s σ H _ _ v u Q I rx ry ⟨rfl, by rw [str_dec]; exact q⟩
  simp only [eqOk, Bool.and_eq_true, Bool.not_eq_true'] at o1 o2
  obtain ⟨as, r1⟩ := reads_of I d h1 rx o1.2
  obtain ⟨bs, r2⟩ := reads_of I d' h2 ry o2.2
  exact ne_dataH r1 r2 o1.1 o2.1 hr.units ⟨.bl _, H, I, rfl, q⟩
/-! ### isinstance -/
def tyD : PyData → String
  | .none => "NoneType"
  | .bool _ => "bool"
  | .int _ => "int"
  | .str _ => "str"
  | .list _ => "list"
  | .tuple _ => "tuple"
  | .dict _ => "dict"
/-- of one of six built-in types -/
inductive Ty6 : String → Prop where
  | int : Ty6 "int" | bool : Ty6 "bool" | str : Ty6 "str" | list : Ty6 "list" | tuple : Ty6 "tuple" | dict : Ty6 "dict"
def isiD (d : PyData) (T : String) : Bool := tyD d == T || (T == "int" && tyD d == "bool")
theorem isi_kit {K : PySem.W.Frag} (d : PyData) {T : String} (h : Ty6 T) : PySem.W.kitOne K (.type (tyD d)) (.type T) = some (isiD d T) := by
  cases h <;> cases d <;> rfl
theorem call_isiD : CallR X (.builtin "isinstance") (fun xs H Q => ∃ x d T, xs = [x, .ty T] ∧ RepD X.K H d x ∧ Ty6 T ∧ Q (.bl (isiD d T)) H) := by
  intro pins s σ H xs us Q I r h
  obtain ⟨x, d, T, rfl, rd, h6, q⟩ := h
  obtain ⟨u, w', rfl, rx, ry⟩ := vals2 r
  cases (show w' = Value.type T from ry)
  have e := isi_kit (K := X.K) d h6
  have fin : ∀ tk, EP X pins σ Q (.bool (isiD d T)) { s with toks := tk } := fun tk => ⟨.bl _, H, I.tok _, rfl, q⟩
  generalize isiD d T = b at e fin
  cases d with
  | none => simp only [RepD] at rd; subst rd; cases (show u = Value.none from rx); exact PySem.W.kia_one PySem.W.kitx_none I.kIn True.intro e (fun z => nomatch z) fin
  | bool y => simp only [RepD] at rd; subst rd; cases (show u = Value.bool y from rx); exact PySem.W.kia_one PySem.W.kitx_bool I.kIn True.intro e (fun z => nomatch z) fin
  | int i => simp only [RepD] at rd; subst rd; obtain ⟨t, z⟩ := (show ∃ t, u = Value.int i t from rx); subst z; exact PySem.W.kia_one PySem.W.kitx_int I.kIn True.intro e (fun z => nomatch z) fin
  | str y => simp only [RepD] at rd; subst rd; obtain ⟨t, z⟩ := (show ∃ t, u = Value.str y t from rx); subst z; exact PySem.W.kia_one PySem.W.kitx_str I.kIn True.intro e (fun z => nomatch z) fin
  | list ds =>
    simp only [RepD] at rd
    obtain ⟨a, vs, z, hs, _⟩ := rd
    subst z
    cases (show u = Value.ref a from rx)
    obtain ⟨its, rv, ⟨o, n, e1, e2, e3, e4⟩, hz⟩ := I.list hs.sq
    exact PySem.W.kia_one PySem.W.kitx_list I.kIn ⟨_, e1, e2⟩ e (fun z => nomatch z) fin
  | tuple ds =>
    simp only [RepD] at rd
    obtain ⟨a, vs, z, hs, _⟩ := rd
    subst z
    cases (show u = Value.ref a from rx)
    obtain ⟨its, rv, ⟨o, e1, e2, e3⟩, hz⟩ := I.tuple hs
    exact PySem.W.kia_one PySem.W.kitx_tuple I.kIn ⟨_, e1, e2⟩ e (fun z => nomatch z) fin
  | dict kvs =>
    simp only [RepD] at rd
    obtain ⟨a, o, l, z, ha, _⟩ := rd
    subst z
    cases (show u = Value.ref a from rx)
    obtain ⟨_, hs, vs, kv, o', es, ep, e1, e2, _⟩ := dk_rd I.hok (.inr ⟨o, ha⟩)
    exact PySem.W.kia_one PySem.W.kitx_dict I.kIn ⟨_, e1, e2.1⟩ e (fun z => nomatch z) fin
/-! ### all of a list of truths -/
theorem bools_are {K : PySem.W.Frag} {H : Hp} : ∀ {bs : List Bool} {vs : List V} {us : List Value}, RepA K H (bs.map PyData.bool) vs → Vals vs us → LSm.BoolsAre us bs
  | [], vs, us, h, r => by simp only [List.map_nil, RepA] at h; subst h; cases r; exact .nil
  | b :: bs, vs, us, h, r => by
    simp only [List.map_cons, RepA] at h
    obtain ⟨v, vr, e, h1, h2⟩ := h
    subst e
    simp only [RepD] at h1
    subst h1
    cases r with
    | cons r1 r2 => cases (show _ = Value.bool b from r1); exact .cons b (bools_are h2 r2)
theorem call_allD (hc : X.calm = true) : CallR X (.builtin "all") (fun xs H Q => ∃ (x : V) (bs : List Bool), xs = [x] ∧ RepD X.K H (.list (bs.map PyData.bool)) x ∧ Q (.bl (bs.all id)) H) := by
  intro pins s σ H xs us Q I r h
  obtain ⟨x, bs, rfl, rd, q⟩ := h
  obtain ⟨u, rfl, rx⟩ := vals1 r
  simp only [RepD] at rd
  obtain ⟨a, vs, z, hs, ra⟩ := rd
  subst z
  cases (show u = Value.ref a from rx)
  obtain ⟨its, rv, pl, hz⟩ := I.list hs.sq
  obtain ⟨m, F⟩ := I.fr
  have N : News X.base X.env.locals s.heap [] := fun p hp => nomatch hp
  have hb := bools_are ra rv
  have hl : s.heap.IsList a its.toArray := pl.isList
  have hlt : a < s.heap.objs.size := by obtain ⟨_, e, _⟩ := hl; exact Heap.lt_size e
  refine call_all_walk (wpAny_pyIter_list hl ?_)
  refine ⟨s.heap.objs.size, [s.heap.objs.size, a], [s.heap.objs.size], its.toArray.size, _, _, fun i => (bs[i]?).getD true, rfl, Walks.list (A := X.A.in1) (I.ok.hd hc) _ a (Nat.ne_of_lt hlt) its.toArray,
    ⟨⟨_, Heap.get?_push_size _ rfl, rfl, rfl⟩, hl.push _⟩, fun i v s' Q' E' hP hQ => ?_, fun h' tk hk => ?_⟩
  · obtain ⟨b, e, rfl⟩ := hb.get i v (by simpa using hP)
    simp only [e, Option.getD_some] at hQ
    exact wpAny_truthy_bool hQ
  · have e : ((List.range its.toArray.size).all fun i => (bs[i]?).getD true) = bs.all id := by
      rw [List.size_toArray, hb.length]; exact LSm.range_all bs
    rw [e]
    exact ⟨.bl _, H, I.kept (LSm.kept_iter hk), rfl, q⟩
end
end D

set_option Elab.async false
set_option linter.all false
set_option maxRecDepth 100000
set_option maxHeartbeats 4000000
namespace D
open PySem PySem.Spec PyProof.Rows L2
section
variable {X : Cx} {K : PySem.W.Frag}
theorem OpR.or {f : Value → Value → Sem Value} {r r' : R2} (h : OpR X f r) (h' : OpR X f r') : OpR X f (fun x y H Q => r x y H Q ∨ r' x y H Q) := by
  intro pins s σ H x y v u Q I rx ry q
  rcases q with q | q
  · exact h pins s σ H x y v u Q I rx ry q
  · exact h' pins s σ H x y v u Q I rx ry q
theorem OpD.or {r r' : R2} {rd rd' : W → W → MH → QD → Prop} (h : OpD K r rd) (h' : OpD K r' rd') : OpD K (fun x y H Q => r x y H Q ∨ r' x y H Q) (fun w w' M Q => rd w w' M Q ∨ rd' w w' M Q) := by
  intro x y H w w' M Qd Q r1 r2 m q k
  rcases q with q | q
  · exact .inl (h x y H w w' M Qd Q r1 r2 m q k)
  · exact .inr (h' x y H w w' M Qd Q r1 r2 m q k)
/-! ### ints -/
def rdI0 (g : Int → Int → PyData) (w : W) (w' : W) (M : MH) (Q : QD) : Prop := ∃ i j, w = .d (.int i) ∧ w' = .d (.int j) ∧ Q (.d (g i j)) M
def rdI (C : Int → Int → Prop) (g : Int → Int → PyData) (w : W) (w' : W) (M : MH) (Q : QD) : Prop := ∃ i j, w = .d (.int i) ∧ w' = .d (.int j) ∧ C i j ∧ Q (.d (g i j)) M
theorem opd_I0 {g : Int → Int → V} {gd : Int → Int → PyData} (hg : ∀ i j H, RepD K H (gd i j) (g i j)) : OpD K (rI0 g) (rdI0 gd) := by
  intro x y H w w' M Qd Q r1 r2 m ⟨i, j, e1, e2, q⟩ k
  subst e1; subst e2
  simp only [RepW, RepD] at r1 r2
  exact ⟨i, j, r1, r2, k _ H (.d (gd i j)) M (Kp.refl H) (hg i j H) m q⟩
theorem opd_I {C : Int → Int → Prop} {g : Int → Int → V} {gd : Int → Int → PyData} (hg : ∀ i j H, RepD K H (gd i j) (g i j)) : OpD K (rI C g) (rdI C gd) := by
  intro x y H w w' M Qd Q r1 r2 m ⟨i, j, e1, e2, c, q⟩ k
  subst e1; subst e2
  simp only [RepW, RepD] at r1 r2
  exact ⟨i, j, r1, r2, c, k _ H (.d (gd i j)) M (Kp.refl H) (hg i j H) m q⟩
def rdSub (w w' : W) (M : MH) (Q : QD) : Prop := rdI0 (fun i j => .int (i - j)) w w' M Q
def rdMul (w w' : W) (M : MH) (Q : QD) : Prop := rdI CMul (fun i j => .int (i * j)) w w' M Q
def rdMod (w w' : W) (M : MH) (Q : QD) : Prop := rdI (fun _ j => 0 < j) (fun i j => .int (i % j)) w w' M Q
def rdDiv (w w' : W) (M : MH) (Q : QD) : Prop := rdI CDiv (fun i j => .int (i / j)) w w' M Q
def rdPow (w w' : W) (M : MH) (Q : QD) : Prop := rdI CPow (fun i j => .int (i ^ j.toNat)) w w' M Q
def rdAdd (w : W) (w' : W) (M : MH) (Q : QD) : Prop := rdI0 (fun i j => .int (i + j)) w w' M Q ∨ ∃ x y, w = .d (.str x) ∧ w' = .d (.str y) ∧ x.length + y.length ≤ sizeLine ∧ Q (.d (.str (x ++ y))) M
theorem opd_sub : OpD K (rI0 fun i j => .int (i - j)) rdSub := opd_I0 fun _ _ _ => by simp [RepD]
theorem opd_mul : OpD K (rI CMul fun i j => .int (i * j)) rdMul := opd_I fun _ _ _ => by simp [RepD]
theorem opd_mod : OpD K (rI (fun _ j => 0 < j) fun i j => .int (i % j)) rdMod := opd_I fun _ _ _ => by simp [RepD]
theorem opd_div : OpD K (rI CDiv fun i j => .int (i / j)) rdDiv := opd_I fun _ _ _ => by simp [RepD]
theorem opd_pow : OpD K (rI CPow fun i j => .int (i ^ j.toNat)) rdPow := opd_I fun _ _ _ => by simp [RepD]
def rStr2 : R2 := fun x y H Q => ∃ i j, x = .str i ∧ y = .str j ∧ i.length + j.length ≤ sizeLine ∧ Q (.str (i ++ j)) H
theorem opd_addS : OpD K rStr2 (fun w w' M Q => ∃ x y, w = .d (.str x) ∧ w' = .d (.str y) ∧ x.length + y.length ≤ sizeLine ∧ Q (.d (.str (x ++ y))) M) := by
  intro x y H w w' M Qd Q r1 r2 m ⟨i, j, e1, e2, c, q⟩ k
  subst e1; subst e2
  simp only [RepW, RepD] at r1 r2
  exact ⟨i, j, r1, r2, c, k _ H (.d (.str (i ++ j))) M (Kp.refl H) (by simp [RepW, RepD]) m q⟩
theorem op_add2 : OpR X (binaryOp .Add) (fun x y H Q => rI0 (fun i j => .int (i + j)) x y H Q ∨ rStr2 x y H Q) := OpR.or op_add op_add_str
theorem opd_add2 : OpD K (fun x y H Q => rI0 (fun i j => .int (i + j)) x y H Q ∨ rStr2 x y H Q) rdAdd := OpD.or (opd_I0 fun _ _ _ => by simp [RepD]) opd_addS
/-! ### comparisons -/
def rS (g : Str → Str → Bool) : R2 := fun x y H Q => ∃ i j, x = .str i ∧ y = .str j ∧ Q (.bl (g i j)) H
def rdS (g : Str → Str → Bool) (w : W) (w' : W) (M : MH) (Q : QD) : Prop := ∃ i j, w = .d (.str i) ∧ w' = .d (.str j) ∧ Q (.d (.bool (g i j))) M
theorem opd_S {g : Str → Str → Bool} : OpD K (rS g) (rdS g) := by
  intro x y H w w' M Qd Q r1 r2 m ⟨i, j, e1, e2, q⟩ k
  subst e1; subst e2
  simp only [RepW, RepD] at r1 r2
  exact ⟨i, j, r1, r2, k _ H (.d (.bool (g i j))) M (Kp.refl H) (by simp [RepW, RepD]) m q⟩
theorem op_le_str : OpR X (compareOp .LtE) (rS fun x y => !decide (y.cps.toList < x.cps.toList)) := by
  intro pins s σ H x y v u Q I rx ry h
  obtain ⟨i, j, rfl, rfl, q⟩ := h
  obtain ⟨t, rfl⟩ := rx
  obtain ⟨t', rfl⟩ := ry
  exact PySem.P.le_str ⟨.bl _, H, I, rfl, q⟩
def rdLe (w : W) (w' : W) (M : MH) (Q : QD) : Prop := rdI0 (fun i j => .bool (decide (i ≤ j))) w w' M Q ∨ rdS (fun x y => !decide (y.cps.toList < x.cps.toList)) w w' M Q
theorem op_le2 : OpR X (compareOp .LtE) (fun x y H Q => rI0 (fun i j => .bl (decide (i ≤ j))) x y H Q ∨ rS (fun x y => !decide (y.cps.toList < x.cps.toList)) x y H Q) := OpR.or op_le op_le_str
theorem opd_le2 : OpD K (fun x y H Q => rI0 (fun i j => .bl (decide (i ≤ j))) x y H Q ∨ rS (fun x y => !decide (y.cps.toList < x.cps.toList)) x y H Q) rdLe := OpD.or (opd_I0 fun _ _ _ => by simp [RepD]) opd_S
def rdLt (w w' : W) (M : MH) (Q : QD) : Prop := rdI0 (fun i j => .bool (decide (i < j))) w w' M Q
def rdGt (w w' : W) (M : MH) (Q : QD) : Prop := rdI0 (fun i j => .bool (decide (j < i))) w w' M Q
def rdGe (w w' : W) (M : MH) (Q : QD) : Prop := rdI0 (fun i j => .bool (decide (j ≤ i))) w w' M Q
theorem opd_lt : OpD K (rI0 fun i j => .bl (decide (i < j))) rdLt := opd_I0 fun _ _ _ => by simp [RepD]
theorem opd_gt : OpD K (rI0 fun i j => .bl (decide (j < i))) rdGt := opd_I0 fun _ _ _ => by simp [RepD]
theorem opd_ge : OpD K (rI0 fun i j => .bl (decide (j ≤ i))) rdGe := opd_I0 fun _ _ _ => by simp [RepD]
def rdEq (w : W) (w' : W) (M : MH) (Q : QD) : Prop := ∃ d d', w = .d d ∧ w' = .d d' ∧ eqOk2 d d' = true ∧ Q (.d (.bool (PyData.eqv d d'))) M
def rdNe (w : W) (w' : W) (M : MH) (Q : QD) : Prop := ∃ d d', w = .d d ∧ w' = .d d' ∧ eqOk2 d d' = true ∧ Q (.d (.bool (!PyData.eqv d d'))) M
theorem opd_eq : OpD K (fun x y H Q => ∃ d d', RepD K H d x ∧ RepD K H d' y ∧ eqOk2 d d' = true ∧ Q (.bl (PyData.eqv d d')) H) rdEq := by
  intro x y H w w' M Qd Q r1 r2 m ⟨d, d', e1, e2, o1, q⟩ k
  subst e1; subst e2
  exact ⟨d, d', r1, r2, o1, k _ H (.d (.bool _)) M (Kp.refl H) (by simp [RepW, RepD]) m q⟩
theorem opd_ne : OpD K (fun x y H Q => ∃ d d', RepD K H d x ∧ RepD K H d' y ∧ eqOk2 d d' = true ∧ Q (.bl (!PyData.eqv d d')) H) rdNe := by
  intro x y H w w' M Qd Q r1 r2 m ⟨d, d', e1, e2, o1, q⟩ k
  subst e1; subst e2
  exact ⟨d, d', r1, r2, o1, k _ H (.d (.bool _)) M (Kp.refl H) (by simp [RepW, RepD]) m q⟩
def inS (x y : Str) : Bool := !(Builtin.Str.occurrences y x 0 y.length 1).isEmpty
def rdInS (w w' : W) (M : MH) (Q : QD) : Prop := rdS inS w w' M Q
theorem opd_inS : OpD K (rS inS) rdInS := opd_S
theorem op_inS : OpR X (compareOp .In) (rS inS) := op_in_str
/-! ### -a -/
def rdNeg (w : W) (M : MH) (Q : QD) : Prop := ∃ i, w = .d (.int i) ∧ Q (.d (.int (-i))) M
theorem und_neg : UnD K (rU fun i => .int (-i)) rdNeg := by
  intro x H w M Qd Q r m ⟨i, e, q⟩ k
  subst e
  simp only [RepW, RepD] at r
  exact ⟨i, r, k _ H (.d (.int (-i))) M (Kp.refl H) (by simp [RepW, RepD]) m q⟩
/-! ### places -/
def fitW : W → Bool
  | .d (.str z) => decide (z.length ≤ sizeLine)
  | _ => true
def ixW (M : MH) : W → Int → Option W
  | .d (.list ds), i => (atI ds i).map W.d
  | .d (.tuple ds), i => (atI ds i).map W.d
  | .d (.str z), i => (atI z.cps.toList i).map fun c => W.d (.str ⟨#[c]⟩)
  | .m a, i => match M a with
    | some (.lst ws) => atI ws i
    | _ => none
  | _, _ => none
def rdIx (w : W) (w' : W) (M : MH) (Q : QD) : Prop := ∃ i x, w' = .d (.int i) ∧ ixW M w i = some x ∧ fitW w = true ∧ Q x M
theorem atI_repA {H : Hp} {ds : List PyData} {vs : List V} {i : Int} {d : PyData} (r : RepA K H ds vs) (e : atI ds i = some d) : ∃ v, atI vs i = some v ∧ RepD K H d v := by
  unfold atI at e ⊢
  rw [r.length]
  cases q : ixN ds.length i with
  | none => rw [q] at e; cases e
  | some j =>
    rw [q] at e
    exact r.get e
theorem atI_repWs {H : Hp} {ds : List W} {vs : List V} {i : Int} {d : W} (r : RepWs K H ds vs) (e : atI ds i = some d) : ∃ v, atI vs i = some v ∧ RepW K H d v := by
  unfold atI at e ⊢
  rw [← r.length]
  cases q : ixN ds.length i with
  | none => rw [q] at e; cases e
  | some j =>
    rw [q] at e
    exact r.get e
theorem opd_ix : OpD K (rIx K) rdIx := by
  intro x y H w w' M Qd Q r1 r2 m ⟨i, z, e2, ei, hf, q⟩ k
  subst e2
  simp only [RepW, RepD] at r2
  cases w with
  | t n => simp [ixW] at ei
  | m a =>
    simp only [RepW] at r1
    simp only [ixW] at ei
    cases hm : M a with
    | none => rw [hm] at ei; cases ei
    | some mo =>
      rw [hm] at ei
      cases mo with
      | lst ws =>
        obtain ⟨vs, e1, rw1⟩ := m a _ hm
        obtain ⟨v, e3, rv⟩ := atI_repWs rw1 ei
        exact .inl ⟨a, vs, i, v, r1, r2, SqL.of e1, e3, k v H z M (Kp.refl H) rv m q⟩
      | dic _ => cases ei
      | dct _ => cases ei
      | fdic _ => cases ei
      | ins _ _ => cases ei
  | d d =>
    cases d with
    | list ds =>
      simp only [RepW, RepD] at r1
      obtain ⟨a, vs, e1, hs, ra⟩ := r1
      simp only [ixW] at ei
      cases h : atI ds i with
      | none => rw [h] at ei; cases ei
      | some d =>
        rw [h] at ei
        cases ei
        obtain ⟨v, e3, rv⟩ := atI_repA ra h
        exact .inl ⟨a, vs, i, v, e1, r2, hs.sq, e3, k v H (.d d) M (Kp.refl H) rv m q⟩
    | tuple ds =>
      simp only [RepW, RepD] at r1
      obtain ⟨a, vs, e1, hs, ra⟩ := r1
      simp only [ixW] at ei
      cases h : atI ds i with
      | none => rw [h] at ei; cases ei
      | some d =>
        rw [h] at ei
        cases ei
        obtain ⟨v, e3, rv⟩ := atI_repA ra h
        exact .inr (.inl ⟨a, vs, i, v, e1, r2, hs, e3, k v H (.d d) M (Kp.refl H) rv m q⟩)
    | str s =>
      simp only [RepW, RepD] at r1
      simp only [ixW] at ei
      cases h : atI s.cps.toList i with
      | none => rw [h] at ei; cases ei
      | some c =>
        rw [h] at ei
        cases ei
        exact .inr (.inr ⟨s, i, c, r1, r2, of_decide_eq_true hf, h, k _ H (.d (.str ⟨#[c]⟩)) M (Kp.refl H) (by simp [RepW, RepD]) m q⟩)
    | _ => simp [ixW] at ei
/-! ### slices -/
theorem pe_frzO {e : Expr} {t : TE} (h : PE X e t) : PE X e (fun σ H Q => t σ H fun v H1 => Q v H1 ∨ ∃ p u, v = .ref p ∧ H1 p = some u ∧ Fz u ∧ ∀ o, Q v (upd H1 p (.frz o u))) := by
  intro pins s σ H Q I hq
  refine thn (h pins s σ H _ I hq) fun v s1 ⟨x, H1, I1, r1, q⟩ => ?_
  rcases q with q | ⟨p, u, e1, e2, f, q⟩
  · exact ⟨x, _, I1, r1, q⟩
  · obtain ⟨o, I2⟩ := I1.freeze e2 f
    exact ⟨x, _, I2, r1, q o⟩
def rSlS : V → Option Int → Option Int → Hp → VK → Prop := fun x lo hi H Q => ∃ z, x = .str z ∧ z.length ≤ sizeLine ∧ Q (.str (Txt.slice z lo hi)) H
theorem sl_str : SlR X rSlS := by
  intro pins s σ H x v vl vu lo hi sl Q I rx hs pl pu h
  obtain ⟨z, rfl, hz, q⟩ := h
  obtain ⟨t, rfl⟩ := rx
  have fin : ∀ t' k, EP X pins σ Q (.str (Txt.slice z lo hi) t') { s with toks := k } := fun t' k => ⟨.str _, H, I.tok _, ⟨_, rfl⟩, q⟩
  refine ⟨"str", _, F.slot_str_getitem.lookup, typeIs_str _ _ _, ?_⟩
  cases pl with
  | none =>
    cases pu with
    | none => exact wpAny_getItem_str_slice (l := none) (u := none) (st := none) hs rfl (post_val_or_str ⟨Nat.le_trans (Txt.slice_le z _ _) hz, fin⟩)
    | int j uj => exact wpAny_getItem_str_slice (l := none) (u := some (j, uj)) (st := none) hs rfl (post_val_or_str ⟨Nat.le_trans (Txt.slice_le z _ _) hz, fin⟩)
  | int i ui =>
    cases pu with
    | none => exact wpAny_getItem_str_slice (l := some (i, ui)) (u := none) (st := none) hs rfl (post_val_or_str ⟨Nat.le_trans (Txt.slice_le z _ _) hz, fin⟩)
    | int j uj => exact wpAny_getItem_str_slice (l := some (i, ui)) (u := some (j, uj)) (st := none) hs rfl (post_val_or_str ⟨Nat.le_trans (Txt.slice_le z _ _) hz, fin⟩)
abbrev TOd := DS → MH → (Option Int → MH → Prop) → Prop
def upO (K : PySem.W.Frag) (t : TOd) : TO := fun σ H Q => ∃ τ M Qd, Abs K H σ τ M ∧ t τ M Qd ∧ ∀ b H' M', Kp H H' → MAbs K H' M' → Qd b M' → Q b H'
abbrev POd (X : Cx) (e : Option Expr) (t : TOd) : Prop := PO X e (upO X.K t)
theorem po_w {e : Option Expr} {t t' : TO} (h : PO X e t) (k : ∀ σ H Q, t' σ H Q → t σ H Q) : PO X e t' := fun pins s σ H Q I q => h pins s σ H Q I (k σ H Q q)
def dNoPart (_ : DS) (M : MH) (Q : Option Int → MH → Prop) : Prop := Q none M
def dPart (t : TD) (τ : DS) (M : MH) (Q : Option Int → MH → Prop) : Prop := t τ M fun w M1 => ∃ i, w = .d (.int i) ∧ Q (some i) M1
theorem pod_none : POd X none dNoPart := po_w po_none fun σ H Q ⟨τ, M, Qd, A, q, k⟩ => k none H M (Kp.refl H) A.mem q
theorem pod_some {e : Expr} {te : TD} (h : PD X e te) : POd X (some e) (dPart te) := po_w (po_some h) fun σ H Q ⟨τ, M, Qd, A, q, k⟩ => ⟨τ, M, _, A, q, fun v H1 w M1 kp r m ⟨i, e, q1⟩ => by
  subst e
  simp only [RepW, RepD] at r
  exact ⟨i, r, k _ H1 M1 kp m q1⟩⟩
def cutD {α : Type} (xs : List α) (lo hi : Option Int) : List α := (xs.drop (HT.sIx xs.length 0 lo)).take (HT.sIx xs.length xs.length hi - HT.sIx xs.length 0 lo)
def wholeD (n : Nat) (lo hi : Option Int) : Bool := decide (HT.sIx n 0 lo = 0 ∧ HT.sIx n n hi = n)
def slW : W → Option Int → Option Int → Option W
  | .d (.list ds), lo, hi => some (.d (.list (cutD ds lo hi)))
  | .d (.tuple ds), lo, hi => if wholeD ds.length lo hi then none else some (.d (.tuple (cutD ds lo hi)))
  | .d (.str z), lo, hi => some (.d (.str (Txt.slice z lo hi)))
  | _, _, _ => none
def dSl (te : TD) (tl th : TOd) (τ : DS) (M : MH) (Q : QD) : Prop := te τ M fun w M1 => tl τ M1 fun lo M2 => th τ M2 fun hi M3 => ∃ z, slW w lo hi = some z ∧ fitW w = true ∧ Q z M3
theorem sl_any : SlR X (fun x lo hi H Q => rSlL X.K x lo hi H Q ∨ rSlT X.K x lo hi H Q ∨ rSlS x lo hi H Q) := sl_list.or (sl_tup.or sl_str)
theorem RepA.cut {H : Hp} {ds : List PyData} {vs : List V} (r : RepA K H ds vs) (lo hi : Option Int) : RepA K H (cutD ds lo hi) (cutV vs lo hi) := by
  unfold cutD cutV
  rw [r.length]
  exact (r.drop _).take _
theorem pd_slice {e : Expr} {te : TD} {lo hi : Option Expr} {tl th : TOd} {pos p2 : Pos} (he : PD X e te) (hl : POd X lo tl) (hu : POd X hi th) : PD X (.Subscript e (.Slice lo hi none p2) pos) (dSl te tl th) :=
  pe_w (pe_frzO (pe_slice sl_any he hl hu)) fun σ H Q h => by
    obtain ⟨τ, M, Qd, A, h, k⟩ := h
    refine ⟨τ, M, _, A, h, fun v H1 w M1 kp1 r1 m1 q1 => ⟨τ, M1, _, A.go kp1 m1, q1, fun lo H2 M2 kp2 m2 q2 => ⟨τ, M2, _, A.go (kp1.trans kp2) m2, q2, fun hi H3 M3 kp3 m3 q3 => ?_⟩⟩⟩
    obtain ⟨z, ez, hf, q⟩ := q3
    have kp := (kp1.trans kp2).trans kp3
    have r := r1.keep (kp2.trans kp3)
    cases w with
    | t n => simp [slW] at ez
    | m a => simp [slW] at ez
    | d d =>
      cases d with
      | list ds =>
        simp only [slW] at ez
        cases ez
        simp only [RepW, RepD] at r
        obtain ⟨a, vs, e1, hs, ra⟩ := r
        exact .inl ⟨a, vs, e1, hs.sq, fun p hp => .inr (imp_frz hp (RepA.cut ra lo hi) m3 q (kgo k kp))⟩
      | tuple ds =>
        simp only [slW] at ez
        split at ez
        · cases ez
        · rename_i hw
          cases ez
          simp only [RepW, RepD] at r
          obtain ⟨a, vs, e1, hs, ra⟩ := r
          refine .inr (.inl ⟨a, vs, e1, hs, ?_, fun p hp => .inl ?_⟩)
          · rw [ra.length]
            simpa [wholeD] using hw
          · refine k _ _ (.d (.tuple _)) M3 (kp.trans (Kp.new hp)) ?_ (m3.new hp) q
            simp only [RepW, RepD]
            exact ⟨p, _, rfl, .inl (.inl upd_same), (RepA.cut ra lo hi).keep (Kp.new hp)⟩
      | str s =>
        simp only [slW] at ez
        cases ez
        simp only [RepW, RepD] at r
        exact .inr (.inr ⟨s, r, of_decide_eq_true hf, .inl (k _ H3 (.d (.str _)) M3 kp (by simp [RepW, RepD]) m3 q)⟩)
      | _ => simp [slW] at ez
/-! ### o[i] = v, o[i] op= v of a list of the store -/
def gSet (to ti : TD) (v : W) (τ : DS) (M : MH) (Q : DS → MH → Prop) : Prop := to τ M fun w M1 => ti τ M1 fun w' M2 => ∃ a ws i j, w = .m a ∧ w' = .d (.int i) ∧ M2 a = some (.lst ws) ∧ ixN ws.length i = some j ∧ Q τ (updM M2 a (.lst (ws.set j v)))
theorem set_rep {H : Hp} {M : MH} {a : Addr} {ws : List W} {vs : List V} {j : Nat} {v : V} {w : W} (m : MAbs K H M) (e : H a = some (.lst vs)) (rw1 : RepWs K H ws vs) (rv : RepW K H w v) :
    Kp H (upd H a (.lst (vs.set j v))) ∧ MAbs K (upd H a (.lst (vs.set j v))) (updM M a (.lst (ws.set j w))) := by
  have kp : Kp H (upd H a (.lst (vs.set j v))) := Kp.set e (fun xs z => nomatch z) fun _ _ z => nomatch z
  exact ⟨kp, m.put kp ⟨_, upd_same, (RepWs.set rv j rw1).keep kp⟩⟩
theorem pgd_sub {o i : Expr} {to ti : TD} {pos : Pos} (ho : PD X o to) (hi : PD X i ti)
    (ha : ∀ v, assign (.Subscript o i pos) X.env v = (do
      let ov ← holding [v] (eval o X.env)
      let iv ← holding [v, ov] (eval i X.env)
      standAt pos
      holding [v, ov, iv] (setItem ov iv v)
      release [v, ov, iv] []) := by intro _; rfl) : PGd X (.Subscript o i pos) (gSet to ti) := pg_w (pg_sub ho hi set_list ha) fun v σ H Q h => by
  obtain ⟨w, τ, M, Qd, rv, A, h, k⟩ := h
  refine ⟨τ, M, _, A, h, fun x H1 wo M1 kp1 r1 m1 q1 => ⟨τ, M1, _, A.go kp1 m1, q1, fun y H2 wi M2 kp2 r2 m2 q2 => ?_⟩⟩
  obtain ⟨a, ws, i, j, e1, e2, hm, hj, q⟩ := q2
  subst e1; subst e2
  simp only [RepW, RepD] at r1 r2
  obtain ⟨vs, e3, rw1⟩ := m2 a _ hm
  have kp := kp1.trans kp2
  obtain ⟨kp3, m3⟩ := set_rep (j := j) m2 e3 rw1 (rv.keep kp)
  exact ⟨a, vs, i, j, r1, r2, e3, by rw [← rw1.length]; exact hj, k σ _ τ _ (kp.trans kp3) (A.go (kp.trans kp3) m3) q⟩
theorem get_list : PGet X (rIxL X.K) := by
  intro pins s σ H o i ov iv Q I ro ri h
  obtain ⟨p, xs, k, z, rfl, rfl, hq, he, q⟩ := h
  cases ro
  obtain ⟨t, rfl⟩ := ri
  obtain ⟨its, r, pl, hz⟩ := I.list hq
  obtain ⟨j, h1, h2, h3, h4, h5⟩ := atI_get he
  obtain ⟨w, ew, rw'⟩ := r.get h2
  have hl := r.length
  have hn := line63
  have fin : EP X pins σ Q w s := ⟨z, H, I, rw', q⟩
  by_cases h0 : 0 ≤ k
  · have hj : k.toNat = j := by
      rw [seqIndex_of h0 h5] at h1
      exact Option.some.inj h1
    exact wpAny_getItem_list pl.isList h0 (by omega) (by rw [hj]; simpa using ew) fin
  · have hj : (k + (its.toArray.size : Int)).toNat = j := by
      rw [seqIndex_neg (by omega) h4] at h1
      rw [List.size_toArray, ← hl]
      exact Option.some.inj h1
    exact wpAny_getItem_list_neg pl.isList (by omega) (by rw [List.size_toArray] <;> omega) (by omega) (by rw [hj]; simpa using ew) fin
def dAugS (to ti te : TD) (f : Int → Int → Int) (D : Ed) (τ : DS) (M : MH) : Prop := to τ M fun w M1 => ti τ M1 fun w' M2 => ∃ a ws i j n, w = .m a ∧ w' = .d (.int i) ∧ M2 a = some (.lst ws) ∧ ixN ws.length i = some j ∧ ws[j]? = some (.d (.int n)) ∧
  te τ M2 fun y M3 => ∃ n', y = .d (.int n') ∧ M3 = M2 ∧ D.nx τ (updM M3 a (.lst (ws.set j (.d (.int (f n n'))))))
theorem psd_augS {o i e : Expr} {to ti te : TD} {op : Operator} {f : Int → Int → Int} {pos tpos : Pos} (ho : PD X o to) (hi : PD X i ti) (he : PD X e te) (hp : PIp X op (ipI f))
    (ha : ∀ ov iv new, augStore i ov iv new = (do holding [new, ov, iv] (setItem ov iv new); release [new, ov, iv] []; pure .next) := by intros; rfl) : PSd X (.AugAssign (.Subscript o i tpos) op e pos) (dAugS to ti te f) :=
  ps_w (ps_augS ho hi get_list he hp set_list ha) fun D σ H h => by
    obtain ⟨τ, M, Dd, A, h, k1, _⟩ := h
    refine ⟨τ, M, _, A, h, fun x H1 wo M1 kp1 r1 m1 q1 => ⟨τ, M1, _, A.go kp1 m1, q1, fun y H2 wi M2 kp2 r2 m2 q2 => ?_⟩⟩
    obtain ⟨a, ws, i, j, n, e1, e2, hm, hj, hn, q⟩ := q2
    subst e1; subst e2
    simp only [RepW, RepD] at r1 r2
    obtain ⟨vs, e3, rw1⟩ := m2 a _ hm
    obtain ⟨v, e4, rv⟩ := rw1.get hn
    simp only [RepW, RepD] at rv
    have hj' : ixN vs.length i = some j := by rw [← rw1.length]; exact hj
    refine ⟨a, vs, i, v, r1, r2, SqL.of e3, by unfold atI; rw [hj']; exact e4, ?_⟩
    refine ⟨τ, M2, _, A.go (kp1.trans kp2) m2, q, fun z H3 wz M3 kp3 r3 m3 q3 => ?_⟩
    obtain ⟨n', e5, e6, qn⟩ := q3
    subst e5; subst e6
    simp only [RepW, RepD] at r3
    refine ⟨n, n', rv, r3, ?_⟩
    obtain ⟨vs', e3', rw2⟩ := m3 a _ hm
    have kp := (kp1.trans kp2).trans kp3
    obtain ⟨kp4, m4⟩ := set_rep (j := j) (v := .int (f n n')) (w := .d (.int (f n n'))) m3 e3' rw2 (by simp [RepW, RepD])
    exact ⟨a, vs', i, j, r1, r2, e3', by rw [← rw2.length]; exact hj, k1 σ _ τ _ (kp.trans kp4) (A.go (kp.trans kp4) m4) qn⟩
end
end D

set_option Elab.async false
set_option linter.all false
set_option maxRecDepth 100000
set_option maxHeartbeats 4000000
namespace D
open PySem PySem.Spec PyProof.Rows L2
section
variable {X : Cx} {K : PySem.W.Frag} {tg : Expr}
/-! ### what is walked -/
/-- the signs of a text -/
def Its (z : Str) : It := ⟨fun i _ => i < z.cps.size, fun i H x H' => H' = H ∧ ∃ c, z.cps[i]? = some c ∧ x = .str ⟨#[c]⟩, fun i _ => z.cps.size ≤ i⟩
theorem turn_str {P : Program} {w : World} {K : PySem.W.Frag} {tg : Expr} (it : Addr) (T : String) (z : Str) (t : Tok)
    (hT : ["enumerate", "zip", "dict_itemiterator", "dict_reverseitemiterator", "odict_iterator", "itertools.zip_longest", "itertools.pairwise"].contains T = false)
    (W : ∀ A : Around, A.handled = none → Walks P w A it [it] [it] z.cps.size (SignAt z) (fun i h => h.IsStrIter it T z t i)) (hself : ∀ (A : Around) (i : Nat) (s : Shared) (Q : Value → Shared → Prop) (E : Value → Shared → Prop), s.heap.IsStrIter it T z t i → Q (.ref it) s → wpAny (model P w) A (pyIter (.ref it)) Q E s)
    (hend : ∀ (A : Around) (i : Nat) (s : Shared) (Q : Option Value → Shared → Prop) (E : Value → Shared → Prop), A.handled = none → s.heap.IsStrIter it T z t i → z.cps[i]? = none → (∀ h', Heap.ExtBut it s.heap h' → Q none { s with heap := h' }) → wpAny (model P w) A (pyNext (.ref it)) Q E s) :
    Turn P w K tg (Its z) [it] it (fun i h => h.IsStrIter it T z t i) where
  mem := by simp
  obj := fun i h st b hb => by
    have e : b = it := by simpa using hb
    subst e
    obtain ⟨o, e, c, d⟩ := st
    exact ⟨o, e, fun v q => by rw [d] at q; cases q⟩
  keep := fun i h h' st k => by
    obtain ⟨o, e, r⟩ := st
    exact ⟨o, k it (by simp) o e, r⟩
  item := by
    intro X hP hw hK hc i pins s σ H E I hf st hg
    subst hP hw hK
    obtain ⟨f0, f1, f2, f3, f4, f5⟩ := hf it (by simp)
    refine (W X.A (I.ok.hd hc)).item i s _ _ hg st fun v h' tk hv st' kk => ?_
    obtain ⟨c, u, hc', rfl⟩ := hv
    have I1 : Inv X pins σ H { s with heap := h', toks := tk } := I.turned (fun b o hb e => kk b o (by simpa using hb) e) f0 f1 f3 f4 f5
    obtain ⟨o, e, cl, d⟩ := id st'
    exact ⟨_, rfl, go_of (s := { s with heap := h', toks := tk }) e cl d hT ⟨.str ⟨#[c]⟩, H, I1, ⟨u, rfl⟩, ⟨rfl, c, hc', rfl⟩, st', fun b hb => (hf b hb).1⟩⟩
  done := by
    intro X hP hw hK hc i pins s σ H E I hf st hg
    subst hP hw hK
    obtain ⟨f0, f1, f2, f3, f4, f5⟩ := hf it (by simp)
    have hn : z.cps.size ≤ i := hg
    exact hend X.A i s _ E (I.ok.hd hc) st (by simp [hn]) fun h' eb => ⟨rfl, I.turned (t' := s.toks) (fun b o hb e => eb b o hb e) f0 f1 f3 f4 f5⟩
  self := hself
section
variable {pins : List (Addr × Obj)} {σ : St} {H : Hp} {s : Shared} {R : It → Hp → Prop} {E : Value → Shared → Prop}
theorem it_str {z : Str} {t : Tok} (I : Inv X pins σ H s) (q : R (Its z) H) : wpAny (model X.prog X.w) X.A (pyIter (.str z t)) (PIE X pins σ tg R) E s := by
  cases ha : z.cps.all (· < 128)
  · refine wpAny_pyIter_wide ha ?_
    refine ⟨s.heap.objs.size, [s.heap.objs.size], _, _, H, rfl, I.kept (t' := s.toks) fun b o e => Heap.get?_push_of_some _ e,
      turn_str _ "str_iterator" z t (by decide) (fun A hA => Walks.strWide hA _ z t) (fun A i s Q E st h => wpAny_pyIter_striter_wide st h) (fun A i s Q E hh st hx hQ => wpAny_pyNext_wide_end hh st hx hQ), ⟨_, Heap.get?_push_size _ rfl, rfl, rfl⟩, fun b hb => ?_, q⟩
    have e : b = s.heap.objs.size := by simpa using hb
    subst e
    exact I.fpOk (Nat.le_refl _) (I.hok.fresh (Nat.le_refl _))
  · refine wpAny_pyIter_ascii ha ?_
    refine ⟨s.heap.objs.size, [s.heap.objs.size], _, _, H, rfl, I.kept (t' := s.toks) fun b o e => Heap.get?_push_of_some _ e,
      turn_str _ "str_ascii_iterator" z t (by decide) (fun A hA => Walks.strAscii hA _ z t) (fun A i s Q E st h => wpAny_pyIter_striter_ascii st h) (fun A i s Q E hh st hx hQ => wpAny_pyNext_ascii_end hh st hx hQ), ⟨_, Heap.get?_push_size _ rfl, rfl, rfl⟩, fun b hb => ?_, q⟩
    have e : b = s.heap.objs.size := by simpa using hb
    subst e
    exact I.fpOk (Nat.le_refl _) (I.hok.fresh (Nat.le_refl _))
theorem it_list {a : Addr} {xs : List V} (I : Inv X pins σ H s) (hq : SqL X.K H a xs) (q : R (Itl X.K a) H) : wpAny (model X.prog X.w) X.A (pyIter (.ref a)) (PIE X pins σ tg R) E s := by
  obtain ⟨its, rv, p, hz⟩ := I.list hq
  refine wpAny_pyIter_list p.isList ?_
  refine ⟨s.heap.objs.size, [s.heap.objs.size], _, _, H, rfl, I.kept (t' := s.toks) fun b o e => Heap.get?_push_of_some _ e, turn_list a _, ⟨_, Heap.get?_push_size _ rfl, rfl, rfl⟩, fun b hb => ?_, q⟩
  have e : b = s.heap.objs.size := by simpa using hb
  subst e
  exact I.fpOk (Nat.le_refl _) (I.hok.fresh (Nat.le_refl _))
theorem it_tup {a : Addr} {xs : List V} (I : Inv X pins σ H s) (hq : SqT X.K H a xs) (q : R (Itt X.K a) H) : wpAny (model X.prog X.w) X.A (pyIter (.ref a)) (PIE X pins σ tg R) E s := by
  obtain ⟨its, rv, p, hz⟩ := I.tuple hq
  refine wpAny_pyIter_tuple (show s.heap.IsTuple a its.toArray from p) ?_
  refine ⟨s.heap.objs.size, [s.heap.objs.size], _, _, H, rfl, I.kept (t' := s.toks) fun b o e => Heap.get?_push_of_some _ e, turn_tuple a _, ⟨_, Heap.get?_push_size _ rfl, rfl, rfl⟩, fun b hb => ?_, q⟩
  have e : b = s.heap.objs.size := by simpa using hb
  subst e
  exact I.fpOk (Nat.le_refl _) (I.hok.fresh (Nat.le_refl _))
end
def iAny (K : PySem.W.Frag) (tl : TE) : TI := fun σ H R => tl σ H fun x H1 => (∃ a xs, x = .ref a ∧ SqL K H1 a xs ∧ R (Itl K a) H1) ∨ (∃ a xs, x = .ref a ∧ SqT K H1 a xs ∧ R (Itt K a) H1) ∨ ∃ z, x = .str z ∧ R (Its z) H1
theorem pi_any {l : Expr} {tl : TE} (hl : PE X l tl) : PI X tg l (iAny X.K tl) := by
  intro pins s σ H R I h
  refine thn (hl pins s σ H _ I h) fun v s1 ⟨x, H1, I1, r1, q1⟩ => ?_
  rcases q1 with ⟨a, xs, e, hq, q⟩ | ⟨a, xs, e, hq, q⟩ | ⟨z, e, q⟩
  · subst e; cases r1; exact it_list I1 hq q
  · subst e; cases r1; exact it_tup I1 hq q
  · subst e; obtain ⟨t, rfl⟩ := r1; exact it_str I1 q

/-! ### sources, over data -/
/-- the walk yields just these, whatever else goes on -/
def ItD (K : PySem.W.Frag) (J : It) (H0 : Hp) (ws : List W) : Prop := ∀ H, Kp H0 H → ∀ i : Nat, (i < ws.length → J.go i H) ∧ (ws.length ≤ i → J.stop i H) ∧
  ∀ x H', i < ws.length → J.yld i H x H' → Kp H H' ∧ (∀ M, MAbs K H M → MAbs K H' M) ∧ ∃ w, ws[i]? = some w ∧ RepW K H' w x
abbrev TId := DS → MH → (List W → MH → Prop) → Prop
def upI (K : PySem.W.Frag) (t : TId) : TI := fun σ H R => ∃ τ M Rd, Abs K H σ τ M ∧ t τ M Rd ∧ ∀ J H' ws M', Kp H H' → MAbs K H' M' → ItD K J H' ws → Rd ws M' → R J H'
abbrev PId (X : Cx) (tg iter : Expr) (t : TId) : Prop := PI X tg iter (upI X.K t)
theorem pi_w {iter : Expr} {t t' : TI} (h : PI X tg iter t) (k : ∀ σ H R, t' σ H R → t σ H R) : PI X tg iter t' := fun pins s σ H R I q => h pins s σ H R I (k σ H R q)
def itemsW : W → Option (List W)
  | .d (.list ds) => some (ds.map W.d)
  | .d (.tuple ds) => some (ds.map W.d)
  | .d (.str z) => some (z.cps.toList.map fun c => W.d (.str ⟨#[c]⟩))
  | _ => none
def dItems (te : TD) (τ : DS) (M : MH) (R : List W → MH → Prop) : Prop := te τ M fun w M1 => ∃ ws, itemsW w = some ws ∧ R ws M1
theorem itd_tup {H : Hp} {a : Addr} {vs : List V} {ds : List PyData} (hs : SqT K H a vs) (ra : RepA K H ds vs) : ItD K (Itt K a) H (ds.map W.d) := fun H1 kp i => by
  have hl := ra.length
  refine ⟨fun hi => ?_, fun hi => ⟨vs, SqT.keep kp hs, by rw [List.length_map] at hi; omega⟩, fun x H' hi y => ?_⟩
  · rw [List.length_map] at hi
    exact ⟨vs, vs[i]'(by omega), SqT.keep kp hs, by simp⟩
  · obtain ⟨e, y⟩ := y
    subst e
    have ev := y vs (SqT.keep kp hs)
    obtain ⟨d, e1, rd⟩ := (ra.keep kp).get' ev
    exact ⟨Kp.refl _, fun M m => m, .d d, by simp [e1], rd⟩
theorem itd_str {H : Hp} (z : Str) : ItD K (Its z) H (z.cps.toList.map fun c => W.d (.str ⟨#[c]⟩)) := fun H1 kp i => by
  refine ⟨fun hi => (show i < z.cps.size by simpa using hi), fun hi => (show z.cps.size ≤ i by simpa using hi), fun x H' hi y => ?_⟩
  obtain ⟨e, c, hc, ex⟩ := y
  subst e; subst ex
  exact ⟨Kp.refl _, fun M m => m, .d (.str ⟨#[c]⟩), by simp [hc], by simp [RepW, RepD]⟩
theorem itd_rng {H : Hp} (lo : Int) (n : Nat) : ItD K (Itr lo n) H ((List.range n).map fun i : Nat => W.d (.int (lo + (i : Int)))) := fun H1 kp i => by
  refine ⟨fun hi => (show i < n by simpa using hi), fun hi => (show n ≤ i by simpa using hi), fun x H' hi y => ?_⟩
  obtain ⟨e, ex⟩ := y
  subst e; subst ex
  simp at hi
  exact ⟨Kp.refl _, fun M m => m, .d (.int (lo + i)), by simp [hi], by simp [RepW, RepD]⟩
theorem pid_items {l : Expr} {te : TD} (h : PD X l te) : PId X tg l (dItems te) := pi_w (pi_any h) fun σ H R ⟨τ, M, Rd, A, h, k⟩ => by
  refine ⟨τ, M, _, A, h, fun v H1 w M1 kp r m ⟨ws, e, q⟩ => ?_⟩
  cases w with
  | t n => simp [itemsW] at e
  | m a => simp [itemsW] at e
  | d d =>
    cases d with
    | list ds =>
      simp only [itemsW] at e
      cases e
      simp only [RepW, RepD] at r
      obtain ⟨a, vs, e1, hs, ra⟩ := r
      refine .inl ⟨a, vs, e1, hs.sq, k _ H1 _ M1 kp m ?_ q⟩
      intro H2 kp2 i
      have hl := ra.length
      have hs2 := (hs.keep kp2).sq
      refine ⟨fun hi => ?_, fun hi => ⟨vs, hs2, by rw [List.length_map] at hi; omega⟩, fun x H' hi y => ?_⟩
      · rw [List.length_map] at hi
        exact ⟨vs, vs[i]'(by omega), hs2, by simp⟩
      · obtain ⟨e, y⟩ := y
        subst e
        have ev := y vs hs2
        obtain ⟨d, e1, rd⟩ := (ra.keep kp2).get' ev
        exact ⟨Kp.refl _, fun M m => m, .d d, by simp [e1], rd⟩
    | tuple ds =>
      simp only [itemsW] at e
      cases e
      simp only [RepW, RepD] at r
      obtain ⟨a, vs, e1, hs, ra⟩ := r
      exact .inr (.inl ⟨a, vs, e1, hs, k _ H1 _ M1 kp m (itd_tup hs ra) q⟩)
    | str z =>
      simp only [itemsW] at e
      cases e
      simp only [RepW, RepD] at r
      exact .inr (.inr ⟨z, r, k _ H1 _ M1 kp m (itd_str z) q⟩)
    | _ => simp [itemsW] at e
def rangeW (lo : Int) (n : Nat) : List W := (List.range n).map fun i : Nat => W.d (.int (lo + (i : Int)))
def dRng1 (ta : TAd) (τ : DS) (M : MH) (R : List W → MH → Prop) : Prop := ta τ M fun ws M1 => ∃ j : Int, ws = [.d (.int j)] ∧ -(2 ^ 62) ≤ j ∧ j < 2 ^ 62 ∧ R (rangeW 0 j.toNat) M1
def dRng2 (ta : TAd) (τ : DS) (M : MH) (R : List W → MH → Prop) : Prop := ta τ M fun ws M1 => ∃ i j : Int, ws = [.d (.int i), .d (.int j)] ∧ (-(2 ^ 62) ≤ i ∧ i < 2 ^ 62 ∧ -(2 ^ 62) ≤ j ∧ j < 2 ^ 62) ∧ R (rangeW i (j - i).toNat) M1
theorem repWs1 {H : Hp} {vs : List V} {w : W} (r : RepWs K H [w] vs) : ∃ v, vs = [v] ∧ RepW K H w v := by
  cases r with
  | cons r1 r2 => cases r2; exact ⟨_, rfl, r1⟩
theorem repWs2 {H : Hp} {vs : List V} {w w' : W} (r : RepWs K H [w, w'] vs) : ∃ v v', vs = [v, v'] ∧ RepW K H w v ∧ RepW K H w' v' := by
  cases r with
  | cons r1 r2 =>
    cases r2 with
    | cons r3 r4 => cases r4; exact ⟨_, _, rfl, r1, r3⟩
theorem pid_range1 {a : Expr} {ta : TAd} {p pos : Pos} (hg : Gl X "range") (hm : X.mg "range" = none) (ha : PAd X [a] ta) (hs : starEach [a] X.env = [(false, eval a X.env)] := by rfl) : PId X tg (.Call (.Name "range" p) [a] [] pos) (dRng1 ta) :=
  pi_w (pi_range1 hg hm ha hs) fun σ H R ⟨τ, M, Rd, A, h, k⟩ => ⟨τ, M, _, A, h, fun vs H1 ws M1 kp r m ⟨j, e, h1, h2, q⟩ => by
    subst e
    obtain ⟨v, e1, r1⟩ := repWs1 r
    simp only [RepW, RepD] at r1
    subst r1
    exact ⟨j, e1, h1, h2, k _ H1 _ M1 kp m (itd_rng 0 j.toNat) q⟩⟩
theorem pid_range2 {a b : Expr} {ta : TAd} {p pos : Pos} (hg : Gl X "range") (hm : X.mg "range" = none) (ha : PAd X [a, b] ta) (hs : starEach [a, b] X.env = [(false, eval a X.env), (false, eval b X.env)] := by rfl) (hs2 : starEach [b] X.env = [(false, eval b X.env)] := by rfl) :
    PId X tg (.Call (.Name "range" p) [a, b] [] pos) (dRng2 ta) :=
  pi_w (pi_range2 hg hm ha hs hs2) fun σ H R ⟨τ, M, Rd, A, h, k⟩ => ⟨τ, M, _, A, h, fun vs H1 ws M1 kp r m ⟨i, j, e, h1, q⟩ => by
    subst e
    obtain ⟨v, v', e1, r1, r2⟩ := repWs2 r
    simp only [RepW, RepD] at r1 r2
    subst r1; subst r2
    exact ⟨i, j, e1, h1, k _ H1 _ M1 kp m (itd_rng i _) q⟩⟩

/-! ### for -/
def dFor (di : TId) (g : TGd) (tb : TSd) (D : Ed) (τ : DS) (M : MH) : Prop := di τ M fun ws M1 => ∃ P : Nat → DS → MH → Prop, P 0 τ M1 ∧
  (∀ i w τ M, ws[i]? = some w → P i τ M → g w τ M fun τ2 M2 => tb { D with nx := P (i + 1), ct := P (i + 1), bk := D.nx } τ2 M2) ∧ ∀ τ M, P ws.length τ M → D.nx τ M
theorem psd_for {iter : Expr} {body : List Stmt} {di : TId} {g : TGd} {tb : TSd} {pos : Pos} (hp : PassesOwn (model X.prog X.w) X.A X.env X.xe) (hc : X.calm = true) (hi : PId X tg iter di) (hg : PGd X tg g) (hb : PSsd X body tb)
    (hs : ∀ x, foldedSetIterable iter X.env x = pure x := by intro _; rfl) : PSd X (.For tg iter body [] pos) (dFor di g tb) := ps_w (ps_for hp hc hi hg hb hs) fun D σ H ⟨τ, M, Dd, A, h, k1, k2, k3, k4⟩ => by
  refine ⟨τ, M, _, A, h, fun J H1 ws M1 kp m1 it ⟨P, p0, pt, pe⟩ => ?_⟩
  refine ⟨fun i n σ H' => n = ws.length - i ∧ i ≤ ws.length ∧ Kp H1 H' ∧ ∃ τ M, Abs X.K H' σ τ M ∧ P i τ M, ⟨ws.length, by simp, Nat.zero_le _, Kp.refl _, τ, M1, A.go kp m1, p0⟩, ?_⟩
  rintro i n σ2 H2 ⟨rfl, hi, kp2, τ2, M2, A2, p2⟩
  obtain ⟨go, stop, yld⟩ := it H2 kp2 i
  by_cases hlt : i < ws.length
  · refine .inr ⟨go hlt, fun σ3 H3 => Kp H2 H3 ∧ ∃ τ M, Abs X.K H3 σ3 τ M ∧ P (i + 1) τ M, fun σ3 H3 ⟨kp3, τ3, M3, A3, p3⟩ => ⟨ws.length - (i + 1), by omega, rfl, hlt, kp2.trans kp3, τ3, M3, A3, p3⟩, fun x H3 y => ?_⟩
    obtain ⟨kp3, mk, w, ew, rw⟩ := yld x H3 hlt y
    refine ⟨w, τ2, M2, _, rw, A2.go kp3 (mk _ A2.mem), pt i w τ2 M2 ew p2, fun σ4 H4 τ4 M4 kp4 A4 q4 => ?_⟩
    have kq := kp3.trans kp4
    have kr := (kp.trans kp2).trans kq
    exact ⟨τ4, M4, _, A4, q4, fun σ5 H5 τ5 M5 kp5 A5 q5 => ⟨kq.trans kp5, τ5, M5, A5, q5⟩, fun v H5 w M5 kp5 => k2 v H5 w M5 (kr.trans kp5), fun σ5 H5 τ5 M5 kp5 => k1 σ5 H5 τ5 M5 (kr.trans kp5), fun σ5 H5 τ5 M5 kp5 A5 q5 => ⟨kq.trans kp5, τ5, M5, A5, q5⟩⟩
  · have hl : i = ws.length := by omega
    subst hl
    exact .inl ⟨stop (Nat.le_refl _), k1 σ2 H2 τ2 M2 (kp.trans kp2) A2 (pe τ2 M2 p2)⟩
/-! ### comprehensions -/
def lcSD (k : Nat) (fr : List Nat) (τ : DS) : DS := List.replicate k none ++ fr.map fun j => (τ[j]?).getD none
theorem abs_lc {H : Hp} {σ : St} {τ : DS} {M : MH} (A : Abs K H σ τ M) (k : Nat) (fr : List Nat) : Abs K H (lcS k fr σ) (lcSD k fr τ) M := by
  refine ⟨by simp [lcS, lcSD], fun i w e => ?_, A.mem⟩
  unfold lcSD at e
  by_cases hi : i < k
  · rw [List.getElem?_append_left (by simpa using hi), List.getElem?_replicate] at e
    split at e <;> cases e
  · rw [List.getElem?_append_right (by simpa using hi), List.getElem?_map, List.length_replicate] at e
    cases q : fr[i - k]? with
    | none => rw [q] at e; cases e
    | some j =>
      rw [q] at e
      have e' : (τ[j]?).getD none = some w := Option.some.inj e
      have e2 : τ[j]? = some (some w) := by
        cases z : τ[j]? with
        | none => rw [z] at e'; cases e'
        | some o => rw [z] at e'; exact congrArg some e'
      obtain ⟨v, q1, r⟩ := A.val j w e2
      refine ⟨v, ?_, r⟩
      unfold lcS
      rw [List.getElem?_append_right (by simpa using hi), List.getElem?_map, List.length_replicate, q]
      simp [q1]
def dLC (di : TId) (g : TGd) (tt : TTd) (te : TD) (k : Nat) (fr : List Nat) (τ : DS) (M : MH) (Q : QD) : Prop := di τ M fun ws M1 => ∃ P : Nat → List PyData → DS → MH → Prop, P 0 [] (lcSD k fr τ) M1 ∧
  (∀ i w acc τ M, ws[i]? = some w → P i acc τ M → acc.length < sizeLine ∧ g w τ M fun τ2 M2 => tt τ2 M2 fun b M3 => if b = true then te τ2 M3 fun y M4 => ∃ d, y = .d d ∧ P (i + 1) (acc ++ [d]) τ2 M4 else P (i + 1) acc τ2 M3) ∧
  ∀ acc τ M, P ws.length acc τ M → Q (.d (.list acc)) M
theorem imp_lc {di : TId} {g : TGd} {tt : TTd} {te : TD} {k : Nat} {fr : List Nat} {σ : St} {H : Hp} {Q : VK} (h : up K (dLC di g tt te k fr) σ H Q) :
    tFrz (tLC (upI K di) (upG K g) (upT K tt) (up K te) k fr) σ H Q := by
  obtain ⟨τ, M, Qd, A, h, kk⟩ := h
  refine ⟨τ, M, _, A, h, fun J H1 ws M1 kp m1 it ⟨P, p0, pt, pe⟩ => ?_⟩
  refine ⟨fun i n ys σ' H' => n = ws.length - i ∧ i ≤ ws.length ∧ Kp H1 H' ∧ ∃ acc τ M, RepA K H' acc ys ∧ Abs K H' σ' τ M ∧ P i acc τ M, ⟨ws.length, by simp, Nat.zero_le _, Kp.refl _, [], _, M1, by simp [RepA], abs_lc (A.go kp m1) k fr, p0⟩, ?_⟩
  rintro i n ys σ2 H2 ⟨rfl, hi, kp2, acc, τ2, M2, ra, A2, p2⟩
  obtain ⟨go, stop, yld⟩ := it H2 kp2 i
  by_cases hlt : i < ws.length
  · have hlen := ra.length
    refine .inr ⟨go hlt, ?_, fun x H3 y => ?_⟩
    · obtain ⟨w, hw⟩ : ∃ w, ws[i]? = some w := ⟨ws[i], by simp [hlt]⟩
      have := (pt i w acc τ2 M2 hw p2).1
      omega
    obtain ⟨kp3, mk, w, ew, rw⟩ := yld x H3 hlt y
    refine ⟨w, τ2, M2, _, rw, A2.go kp3 (mk _ A2.mem), (pt i w acc τ2 M2 ew p2).2, fun σ4 H4 τ4 M4 kp4 A4 q4 => ⟨τ4, M4, _, A4, q4, fun b H5 M5 kp5 m5 q5 => ?_⟩⟩
    have kq := (kp3.trans kp4).trans kp5
    cases b with
    | false =>
      rw [if_neg Bool.false_ne_true] at q5
      show (if false = true then _ else _)
      rw [if_neg Bool.false_ne_true]
      exact ⟨ws.length - (i + 1), by omega, rfl, hlt, kp2.trans kq, acc, τ4, M5, ra.keep kq, A4.go kp5 m5, q5⟩
    | true =>
      rw [if_pos rfl] at q5
      show (if true = true then _ else _)
      rw [if_pos rfl]
      refine ⟨τ4, M5, _, A4.go kp5 m5, q5, fun v H6 wv M6 kp6 r6 m6 ⟨d, e6, q6⟩ => ?_⟩
      subst e6
      refine ⟨ws.length - (i + 1), by omega, rfl, hlt, kp2.trans (kq.trans kp6), acc ++ [d], τ4, M6, RepA.append (ra.keep (kq.trans kp6)) ?_, A4.go (kp5.trans kp6) m6, q6⟩
      simp only [RepA]
      exact ⟨v, [], rfl, r6, rfl⟩
  · have hl : i = ws.length := by omega
    subst hl
    exact .inl ⟨stop (Nat.le_refl _), fun p hp => imp_frz hp ra A2.mem (pe acc τ2 M2 p2) (kgo kk (kp.trans kp2))⟩
section
variable {sc : Scope} {own : List Str} {fr : List Nat} {elt iter : Expr} {ifs : List Expr} {pos : Pos} {di : TId} {g : TGd} {tt : TTd} {te : TD}
abbrev PTsd (X : Cx) (ifs : List Expr) (t : TTd) : Prop := PTs X ifs (upT X.K t)
def dYes (_ : DS) (M : MH) (Q : Bool → MH → Prop) : Prop := Q true M
theorem ptsd_nil : PTsd X [] dYes := fun pins s σ H Q I ⟨τ, M, Qd, A, q, k⟩ => pts_nil pins s σ H Q I (k true H M (Kp.refl H) A.mem q)
theorem ptsd_one {c : Expr} {t : TTd} (h : PTd X c t) : PTsd X [c] t := pts_one h
theorem pd_lc (hc : X.calm = true) (L : LcOk X sc own fr) (hi : PId X tg iter di)
    (hg : ∀ cl C s H ex pl, PGd (blk X sc (lcN X own fr) cl C s H ex pl) tg g) (ht : ∀ cl C s H ex pl, PTsd (blk X sc (lcN X own fr) cl C s H ex pl) ifs tt) (he : ∀ cl C s H ex pl, PD (blk X sc (lcN X own fr) cl C s H ex pl) elt te)
    (hs : ∀ x, foldedSetIterable iter X.env x = pure x := by intro _; rfl) : PD X (.ListComp elt [⟨tg, iter, ifs, 0⟩] sc pos) (dLC di g tt te own.length fr) :=
  pe_w (pe_frz (pe_lc hc L hi hg ht he hs)) fun σ H Q h => imp_lc h
theorem ps_frz {st : Stmt} {t : TS} (h : PS X st t) : PS X st (fun D σ H => t { D with nx := fun σ' H' => ∃ p u, H' p = some u ∧ Fz u ∧ ∀ o, D.nx σ' (upd H' p (.frz o u)) } σ H) := by
  intro pins s σ H D I hq
  refine thn (h pins s σ H _ I hq) fun f s1 q => ?_
  cases f with
  | next =>
    obtain ⟨σ', H', I', p, u, e, fz, q⟩ := q
    obtain ⟨o, I2⟩ := I'.freeze e fz
    exact ⟨σ', _, I2, q o⟩
  | brk => exact q
  | cont => exact q
  | ret v => exact q
theorem psd_setLC {i : Nat} {x : Str} {pos' spos : Pos} (hN : X.N.Nodup) (hi' : X.N[i]? = some x) (hx : Loc X.env.scope x) (hc : X.calm = true) (L : LcOk X sc own fr) (hi : PId X tg iter di)
    (hg : ∀ cl C s H ex pl, PGd (blk X sc (lcN X own fr) cl C s H ex pl) tg g) (ht : ∀ cl C s H ex pl, PTsd (blk X sc (lcN X own fr) cl C s H ex pl) ifs tt) (he : ∀ cl C s H ex pl, PD (blk X sc (lcN X own fr) cl C s H ex pl) elt te)
    (hsw : swapsWith (.ListComp elt [⟨tg, iter, ifs, 0⟩] sc pos) (some (.Name x pos')) spos.line X.env = pure true := by rfl)
    (hs : ∀ x, foldedSetIterable iter X.env x = pure x := by intro _; rfl) (hf : X.fn x = true ∨ X.env.scope.names.lookup x = some .local := by first | exact .inl rfl | exact .inr rfl | assumption) :
    PSd X (.Assign [.Name x pos'] (.ListComp elt [⟨tg, iter, ifs, 0⟩] sc pos) spos) (dAsg (dLC di g tt te own.length fr) (gN i)) := ps_w (ps_frz (ps_setLC hN hi' hx hc L hi hg ht he hsw hs hf)) fun D σ H ⟨τ, M, Dd, A, h, k1, _⟩ => by
  have z : up X.K (dLC di g tt te own.length fr) σ H (fun v H' => D.nx (σ.set i (some v)) H') := ⟨τ, M, _, A, h, fun v H1 w M1 kp r m q => k1 _ H1 _ M1 kp ((A.go kp m).set i r) q⟩
  obtain ⟨τ', M', R', A', h', k'⟩ := imp_lc z
  refine ⟨τ', M', R', A', h', fun J H1 ws M1 kp m1 it q => ?_⟩
  obtain ⟨W, w0, st⟩ := k' J H1 ws M1 kp m1 it q
  refine ⟨W, w0, fun i m ys τ H w => ?_⟩
  rcases st i m ys τ H w with ⟨s1, s2⟩ | r
  · refine .inl ⟨s1, fun p hp => ?_⟩
    obtain ⟨p', u, e1, e2, f, q⟩ := s2 p hp
    cases e1
    exact ⟨p, u, e2, f, q⟩
  · exact .inr r
end
end
end D

set_option Elab.async false
set_option linter.all false
set_option maxRecDepth 100000
set_option maxHeartbeats 4000000
namespace D
open PySem PySem.Spec PyProof.Rows L2
section
variable {X : Cx} {K : PySem.W.Frag}
/-! ### calls of what is built in, over data -/
def rdAbs (ws : List W) (M : MH) (Q : QD) : Prop := ∃ i : Int, ws = [.d (.int i)] ∧ Q (.d (.int (if i < 0 then -i else i))) M
theorem cd_abs : CallD K (fun xs H Q => ∃ i, xs = [.int i] ∧ Q (.int (if i < 0 then -i else i)) H) rdAbs := by
  intro vs H ws M Qd Q r m ⟨i, e, q⟩ k
  subst e
  obtain ⟨v, e1, r1⟩ := repWs1 r
  simp only [RepW, RepD] at r1
  subst r1
  exact ⟨i, e1, k _ H (.d (.int _)) M (Kp.refl H) (by simp [RepW, RepD]) m q⟩
def lenW (M : MH) : W → Option Nat
  | .d (.list ds) => some ds.length
  | .d (.tuple ds) => some ds.length
  | .d (.str z) => some z.length
  | .m a => match M a with
    | some (.lst ws) => some ws.length
    | _ => none
  | _ => none
def rdLen (ws : List W) (M : MH) (Q : QD) : Prop := ∃ w n, ws = [w] ∧ lenW M w = some n ∧ fitW w = true ∧ Q (.d (.int (n : Nat))) M
theorem cd_len : CallD K (fun xs H Q => ∃ x n, xs = [x] ∧ LenV K x H n ∧ Q (.int n) H) rdLen := by
  intro vs H ws M Qd Q r m ⟨w, n, e, hn, hf, q⟩ k
  subst e
  obtain ⟨v, e1, r1⟩ := repWs1 r
  refine ⟨v, n, e1, ?_, k _ H (.d (.int _)) M (Kp.refl H) (by simp [RepW, RepD]) m q⟩
  cases w with
  | t _ => simp [lenW] at hn
  | m a =>
    simp only [RepW] at r1
    subst r1
    simp only [lenW] at hn
    cases hm : M a with
    | none => rw [hm] at hn; cases hn
    | some mo =>
      rw [hm] at hn
      cases mo with
      | lst l => cases hn; obtain ⟨us, e2, rw1⟩ := m a _ hm; exact .inl ⟨us, SqL.of e2, rw1.length⟩
      | dic _ => cases hn
      | dct _ => cases hn
      | fdic _ => cases hn
      | ins _ _ => cases hn
  | d d =>
    cases d with
    | list ds => simp only [lenW] at hn; cases hn; simp only [RepW, RepD] at r1; obtain ⟨a, us, e2, hs, ra⟩ := r1; subst e2; exact .inl ⟨us, hs.sq, ra.length.symm⟩
    | tuple ds => simp only [lenW] at hn; cases hn; simp only [RepW, RepD] at r1; obtain ⟨a, us, e2, hs, ra⟩ := r1; subst e2; exact .inr ⟨us, hs, ra.length.symm⟩
    | str z => simp only [lenW] at hn; cases hn; simp only [RepW, RepD] at r1; subst r1; exact ⟨of_decide_eq_true hf, rfl⟩
    | _ => simp [lenW] at hn
def rdIsi (ws : List W) (M : MH) (Q : QD) : Prop := ∃ d T, ws = [.d d, .t T] ∧ Ty6 T ∧ Q (.d (.bool (isiD d T))) M
theorem cd_isi : CallD K (fun xs H Q => ∃ x d T, xs = [x, .ty T] ∧ RepD K H d x ∧ Ty6 T ∧ Q (.bl (isiD d T)) H) rdIsi := by
  intro vs H ws M Qd Q r m ⟨d, T, e, h6, q⟩ k
  subst e
  obtain ⟨v, v', e1, r1, r2⟩ := repWs2 r
  simp only [RepW] at r1 r2
  subst r2
  exact ⟨v, d, T, e1, r1, h6, k _ H (.d (.bool _)) M (Kp.refl H) (by simp [RepW, RepD]) m q⟩
def rdRepr (ws : List W) (M : MH) (Q : QD) : Prop := ∃ d, ws = [.d d] ∧ reprOk d = true ∧ Q (.d (.str d.shown)) M
theorem cd_repr : CallD K (fun xs H Q => ∃ x d, xs = [x] ∧ RepD K H d x ∧ reprOk d = true ∧ Q (.str d.shown) H) rdRepr := by
  intro vs H ws M Qd Q r m ⟨d, e, ok, q⟩ k
  subst e
  obtain ⟨v, e1, r1⟩ := repWs1 r
  exact ⟨v, d, e1, r1, ok, k _ H (.d (.str _)) M (Kp.refl H) (by simp [RepW, RepD]) m q⟩
def rdAll (ws : List W) (M : MH) (Q : QD) : Prop := ∃ bs : List Bool, ws = [.d (.list (bs.map PyData.bool))] ∧ Q (.d (.bool (bs.all id))) M
theorem cd_all : CallD K (fun xs H Q => ∃ (x : V) (bs : List Bool), xs = [x] ∧ RepD K H (.list (bs.map PyData.bool)) x ∧ Q (.bl (bs.all id)) H) rdAll := by
  intro vs H ws M Qd Q r m ⟨bs, e, q⟩ k
  subst e
  obtain ⟨v, e1, r1⟩ := repWs1 r
  exact ⟨v, bs, e1, r1, k _ H (.d (.bool _)) M (Kp.refl H) (by simp [RepW, RepD]) m q⟩
/-! ### methods of texts -/
theorem strs_are {H : Hp} : ∀ {ys : List Str} {vs : List V} {us : List Value}, RepA K H (ys.map PyData.str) vs → Vals vs us → StrsAre us ys
  | [], vs, us, h, r => by simp only [List.map_nil, RepA] at h; subst h; cases r; exact .nil
  | y :: ys, vs, us, h, r => by
    simp only [List.map_cons, RepA] at h
    obtain ⟨v, vr, e, h1, h2⟩ := h
    subst e
    simp only [RepD] at h1
    subst h1
    cases r with
    | cons r1 r2 =>
      obtain ⟨t, e⟩ := (show ∃ t, _ = Value.str y t from r1)
      subst e
      exact .cons _ _ (strs_are h2 r2)
def MtD (K : PySem.W.Frag) (r : V → List V → Hp → VK → Prop) (rd : W → List W → MH → QD → Prop) : Prop := ∀ x vs H w ws M Qd Q, RepW K H w x → RepWs K H ws vs → MAbs K H M → rd w ws M Qd → Kont K H Qd Q → r x vs H Q
def dMS (rd : W → List W → MH → QD → Prop) (to : TD) (t : TAd) (τ : DS) (M : MH) (Q : QD) : Prop := to τ M fun w M1 => (∃ z, w = .d (.str z)) ∧ t τ M1 fun ws M2 => rd w ws M2 Q
theorem pd_ms {o e : Expr} {es : List Expr} {to : TD} {t : TAd} {name : Str} {apos cpos : Pos} {id : String} {r : V → List V → Hp → VK → Prop} {rd : W → List W → MH → QD → Prop} (slot : Slot "str" name id) (hty : typeOf (.builtin id) = pure (.type "method_descriptor")) (hm : MtR X id r) (hd : MtD X.K r rd) (ho : PD X o to) (ha : PAd X (e :: es) t)
    (hbase : attributeBase o name X.env (eval o X.env) = eval o X.env := by rfl)
    (hfew : ((backTo cpos (starEach (e :: es) X.env)).all (fun x => !x.1) && (backToKw cpos (keywordEach [] X.env)).all (fun x => x.1.isSome)
      && decide ((e :: es).length + ([] : List Keyword).length + (if ([] : List Keyword).isEmpty then 0 else 1) < 30)) = true := by rfl)
    (hline : (apos.endLine == cpos.line) = true := by rfl) (hs : starEach (e :: es) X.env = (false, eval e X.env) :: starEach es X.env := by rfl) (hplain : (backTo cpos (starEach es X.env)).any (·.1) = false := by rfl) :
    PD X (.Call (.Attribute o name apos) (e :: es) [] cpos) (dMS rd to t) := pe_w (pe_bm PySem.F.plainAttrs_str slot hty hm ho ha hbase hfew hline hs hplain) fun σ H Q ⟨τ, M, Qd, A, h, k⟩ => by
  refine ⟨τ, M, _, A, h, fun x H1 w M1 kp1 r1 m1 ⟨⟨z, ez⟩, q1⟩ => ?_⟩
  subst ez
  have r1' := r1
  simp only [RepW, RepD] at r1'
  subst r1'
  exact ⟨rfl, τ, M1, _, A.go kp1 m1, q1, fun vs H2 ws M2 kp2 r2 m2 q2 => hd _ vs H2 _ ws M2 Qd Q (r1.keep kp2) r2 m2 q2 (kgo k (kp1.trans kp2))⟩
def rJoin (K : PySem.W.Frag) : V → List V → Hp → VK → Prop := fun x vs H Q => ∃ (sep : Str) (v : V) (ys : List Str), x = .str sep ∧ vs = [v] ∧ RepD K H (.list (ys.map PyData.str)) v ∧ (ys.map (·.length)).sum + ys.length * sep.length ≤ 16777216 ∧ Q (.str (Txt.join sep ys)) H
theorem mt_join : MtR X "str.join" (rJoin X.K) := by
  intro pins s σ H x vs v us Q I rx rv h
  obtain ⟨sep, y, ys, rfl, rfl, rd, hz, q⟩ := h
  obtain ⟨t, rfl⟩ := rx
  obtain ⟨u, rfl, ru⟩ := vals1 rv
  simp only [RepD] at rd
  obtain ⟨a, xs, e, hs, ra⟩ := rd
  subst e
  cases (show u = Value.ref a from ru)
  obtain ⟨its, r, pl, hz'⟩ := I.list hs.sq
  exact join_list pl.isList (by simpa using strs_are ra r) hz fun t' k => ⟨.str _, H, I.tok _, ⟨_, rfl⟩, q⟩
def rdJoin (w : W) (ws : List W) (M : MH) (Q : QD) : Prop := ∃ (sep : Str) (ys : List Str), w = .d (.str sep) ∧ ws = [.d (.list (ys.map PyData.str))] ∧ (ys.map (·.length)).sum + ys.length * sep.length ≤ 16777216 ∧ Q (.d (.str (Txt.join sep ys))) M
theorem md_join : MtD K (rJoin K) rdJoin := by
  intro x vs H w ws M Qd Q r1 r2 m ⟨sep, ys, e1, e2, hz, q⟩ k
  subst e1; subst e2
  obtain ⟨v, e3, r3⟩ := repWs1 r2
  simp only [RepW, RepD] at r1
  exact ⟨sep, v, ys, r1, e3, r3, hz, k _ H (.d (.str _)) M (Kp.refl H) (by simp [RepW, RepD]) m q⟩
theorem pd_join {o e : Expr} {to te : TD} {apos cpos : Pos} (ho : PD X o to) (ha : PD X e te)
    (hbase : attributeBase o "join" X.env (eval o X.env) = eval o X.env := by rfl) (hs : starEach [e] X.env = [(false, eval e X.env)] := by rfl)
    (hfew : ((backTo cpos (starEach [e] X.env)).all (fun x => !x.1) && (backToKw cpos (keywordEach [] X.env)).all (fun x => x.1.isSome)
      && decide (([e] : List Expr).length + ([] : List Keyword).length + (if ([] : List Keyword).isEmpty then 0 else 1) < 30)) = true := by rfl)
    (hline : (apos.endLine == cpos.line) = true := by rfl) :
    PD X (.Call (.Attribute o "join" apos) [e] [] cpos) (dMS rdJoin to (dCons te dNil)) := pd_ms PySem.F.slot_str_join PySem.F.type_str_join mt_join md_join ho (pad_cons ha pad_nil hs) hbase hfew hline hs
/-! ### {..} that never changes -/
def dDict0 (_ : DS) (M : MH) (Q : QD) : Prop := Q (.d (.dict [])) M
theorem pd_dict0 {pos : Pos} : PD X (.Dict [] [] pos) dDict0 := pe_w (pe_frz pe_dnewK) fun σ H Q ⟨τ, M, Qd, A, q, k⟩ => fun p hp => by
  refine ⟨p, _, rfl, upd_same, trivial, fun o => ?_⟩
  rw [upd_upd]
  refine k _ _ (.d (.dict [])) M (Kp.new hp) ?_ (A.mem.new hp) q
  simp only [RepW, RepD, RepK]
  exact ⟨p, o, [], rfl, upd_same, rfl⟩
def dPairs : List (TD × TD) → DS → MH → (List (W × W) → MH → Prop) → Prop
  | [], _, M, Q => Q [] M
  | (tk, tv) :: r, τ, M, Q => tk τ M fun x M1 => tv τ M1 fun y M2 => dPairs r τ M2 fun ps M3 => Q ((x, y) :: ps) M3
theorem imp_pairs : ∀ {trs : List (TD × TD)} {σ : St} {H : Hp} {τ : DS} {M : MH} {Qd : List (W × W) → MH → Prop} {Q : List (V × V) → Hp → Prop}, Abs K H σ τ M → dPairs trs τ M Qd →
    (∀ ps H' ws M', Kp H H' → Paired (fun (p : W × W) (q : V × V) => RepW K H' p.1 q.1 ∧ RepW K H' p.2 q.2) ws ps → MAbs K H' M' → Qd ws M' → Q ps H') → tPairs (trs.map fun p => (up K p.1, up K p.2)) σ H Q
  | [], σ, H, τ, M, Qd, Q, A, h, k => k [] H [] M (Kp.refl H) .nil A.mem h
  | (tk, tv) :: r, σ, H, τ, M, Qd, Q, A, h, k => by
    show (up K tk) σ H _
    refine ⟨τ, M, _, A, h, fun x H1 w M1 kp1 r1 m1 q1 => ⟨τ, M1, _, A.go kp1 m1, q1, fun y H2 w' M2 kp2 r2 m2 q2 => ?_⟩⟩
    refine imp_pairs (A.go (kp1.trans kp2) m2) q2 fun ps H3 ws M3 kp3 r3 m3 q3 => ?_
    exact k _ H3 _ M3 ((kp1.trans kp2).trans kp3) (.cons ⟨r1.keep (kp2.trans kp3), r2.keep kp3⟩ r3) m3 q3
def dDict (trs : List (TD × TD)) (τ : DS) (M : MH) (Q : QD) : Prop := ∀ p, M p = none → dPairs trs τ (updM M p (.dic [])) fun ps M2 => M2 = updM M p (.dic []) ∧ ∃ kvs : List (Key × PyData), ps = kvs.map (fun q => (W.d (keyD q.1), W.d q.2)) ∧ kvs.length ≤ 15 ∧ (kvs.map (·.1)).Nodup ∧
  Q (.d (.dict (kvs.map fun q => (keyD q.1, q.2)))) M
theorem mergeK_new : ∀ {more kvs : List (Key × V)}, ((kvs ++ more).map (·.1)).Nodup → mergeK kvs more = kvs ++ more
  | [], kvs, _ => by simp [mergeK]
  | p :: r, kvs, h => by
    have hn : valV kvs p.1 = none := by
      cases e : valV kvs p.1 with
      | none => rfl
      | some v =>
        have q : (kvs.any fun kv => decide (kv.1 = p.1)) = true := by rw [valV_any, e]; rfl
        obtain ⟨z, hz, ez⟩ := List.any_eq_true.mp q
        rw [List.map_append, List.nodup_append] at h
        exact absurd (of_decide_eq_true ez) (h.2.2 _ (List.mem_map_of_mem hz) _ (by simp))
    show mergeK (putK kvs p.1 p.2) r = _
    rw [putK_new _ hn, mergeK_new (by simpa using h)]
    simp
theorem key_rep {H : Hp} {key : Key} {v : V} (r : RepD K H (keyD key) v) : v = kV key := by
  cases key <;> (simp only [keyD, RepD] at r; exact r)
theorem pairs_key {H : Hp} : ∀ {kvs : List (Key × PyData)} {ps : List (V × V)}, Paired (fun (p : W × W) (q : V × V) => RepW K H p.1 q.1 ∧ RepW K H p.2 q.2) (kvs.map fun q => (W.d (keyD q.1), W.d q.2)) ps →
    ∃ l : List (Key × V), ps = l.map (fun kv => (kV kv.1, kv.2)) ∧ l.map (·.1) = kvs.map (·.1) ∧ RepK K H (kvs.map fun q => (keyD q.1, q.2)) l
  | [], ps, h => by cases h; exact ⟨[], rfl, rfl, by simp [RepK]⟩
  | (k, d) :: kvs, ps, h => by
    cases h with
    | cons r t =>
      rename_i q qs
      obtain ⟨x, y⟩ := q
      obtain ⟨l, e1, e2, e3⟩ := pairs_key t
      refine ⟨(k, y) :: l, ?_, by simp [e2], ?_⟩
      · rw [List.map_cons, ← e1, ← key_rep r.1]
      · simp only [List.map_cons, RepK]
        exact ⟨k, y, l, rfl, rfl, r.2, e3⟩
theorem pd_dict {pos : Pos} {keys : List (Option Expr)} {values : List Expr} {trs : List (TD × TD)} (h : PPs X pos keys values (trs.map fun p => (up X.K p.1, up X.K p.2))) (hall : keys.all (·.isSome) = true := by rfl) (hl : keys.length = values.length := by rfl) (h0 : keys ≠ [] := by simp)
    (h15 : keys.length ≤ 15 := by decide) : PD X (.Dict keys values pos) (dDict trs) := pe_w (pe_frz (pe_disp h hall hl h0 h15)) fun σ H Q ⟨τ, M, Qd, A, q, k⟩ => fun p hp => by
  have kp0 : Kp H (upd H p (.dK [])) := Kp.new hp
  have m0 : MAbs X.K (upd H p (.dK [])) (updM M p (.dic [])) := A.mem.put (mo := .dic []) kp0 ⟨[], upd_same, .nil⟩
  have hM := A.mem.free hp
  refine imp_pairs (A.go kp0 m0) (q p hM) fun ps H2 ws M2 kp2 r2 m2 ⟨eM, kvs, ews, hlen, hnd, qq⟩ => ?_
  subst eM; subst ews
  obtain ⟨l0, e0, pr0⟩ := m2 p _ updM_same
  have el0 : l0 = [] := by cases pr0; rfl
  subst el0
  obtain ⟨l, e1, e2, e3⟩ := pairs_key r2
  have elen : l.length = kvs.length := by
    have := congrArg List.length e2
    simpa using this
  refine ⟨e0, l, e1, by omega, p, _, rfl, upd_same, trivial, fun o => ?_⟩
  have em : mergeK [] l = l := by rw [mergeK_new (by simpa [e2] using hnd)]; rfl
  rw [upd_upd, em]
  have kp3 : Kp H2 (upd H2 p (.frz o (.dK l))) := Kp.set e0 (fun xs z => nomatch z) fun _ _ z => nomatch z
  refine k _ _ (.d (.dict _)) M ((kp0.trans kp2).trans kp3) ?_ (fun a mo hm => ?_) qq
  · simp only [RepW, RepD]
    exact ⟨p, o, l, rfl, upd_same, e3.keep kp3⟩
  · have hne : a ≠ p := fun z => by rw [z, hM] at hm; cases hm
    exact (m2 a mo (by rw [updM_ne hne]; exact hm)).keep kp3 fun u z => by rw [upd_ne hne]; exact z
end
end D

set_option Elab.async false
set_option linter.all false
set_option maxRecDepth 100000
set_option maxHeartbeats 4000000
namespace D
open PySem PySem.Spec PyProof.Rows L2
/-- a def of the text's top, as it stands behind the top -/
structure Fn (K : PySem.W.Frag) (mg : Str → Option Value) (x : Str) (st : Stmt) (ps : List Str) (f : Addr) (fd : FuncData) : Prop where
  fn : Fun K x x st f fd
  mg : mg x = some (.ref f)
  bd : Binds K fd ps []
section
variable {K : PySem.W.Frag} {mg : Str → Option Value} {h : Heap}
theorem fn_mk {x : Str} {st : Stmt} {ps : List Str} {f : Addr} {oc : Value} {od an : Option Addr} {osl : Array (Option Value)} {kV doc pm cdv ct : Value} (X : K.In h) (G : h.Ns mainGlobals mg) (a : PySem.W.nsIn K mainGlobals x = some (some (.ref f)))
    (l : K.lookup f = some ⟨oc, od, .func (PySem.W.fnOf x x (defArgs st) (defBody st) (defScope st) .none kV doc pm an cdv ct), osl⟩) (c : PySem.W.codeIn K cdv x = true) (k : PySem.W.keepIn K (.ref f) = true)
    (b : ∀ (kV doc pm : Value) (an : Option Addr) (cdv ct : Value) (us : List Value), us.length = ps.length → bindArgs (PySem.W.fnOf x x (defArgs st) (defBody st) (defScope st) .none kV doc pm an cdv ct) ⟨us, []⟩ = pure (ps.zip us)) :
    Fn K mg x st ps f (PySem.W.fnOf x x (defArgs st) (defBody st) (defScope st) .none kV doc pm an cdv ct) :=
  have F := fun_mk (st := st) l c k
  ⟨F, PySem.W.mg_of X G a, F.binds b⟩
end
/-- a comprehension's scope, looked at -/
def lcOkB (sc scX : Scope) (N : List Str) (fr : List Nat) : Bool :=
  (sc.kind == .function) && sc.names.all (fun y => !(y.2 == .cell)) && sc.names.all (fun y => !(y.2 == .free) || scX.names.lookup y.1 == some .cell || scX.names.lookup y.1 == some .free) &&
    sc.names.all (fun y => !(y.2 == .local) || sc.names.lookup y.1 == some .local) && frOk N sc fr
theorem lcOk {X : Cx} {sc : Scope} {own : List Str} {fr : List Nat} (h : lcOkB sc X.env.scope X.N fr = true) : LcOk X sc own fr := by
  simp only [lcOkB, Bool.and_eq_true] at h
  obtain ⟨⟨⟨⟨h1, h2⟩, h3⟩, h4⟩, h5⟩ := h
  refine ⟨eq_of_beq h1, fun y hy e => ?_, fun y hy e => ?_, fun y hy e => ?_, h5⟩
  · have := List.all_eq_true.mp h2 y hy
    simp [e] at this
  · have := List.all_eq_true.mp h3 y hy
    simp only [e, beq_self_eq_true, Bool.not_true, Bool.false_or, Bool.or_eq_true] at this
    rcases this with z | z
    · exact .inl (eq_of_beq z)
    · exact .inr (eq_of_beq z)
  · have := List.all_eq_true.mp h4 y hy
    simp only [e, beq_self_eq_true, Bool.not_true, Bool.false_or] at this
    exact eq_of_beq this
theorem bt_int : bootBuiltins "int" = some (.type "int") := by decide +kernel
theorem bt_str : bootBuiltins "str" = some (.type "str") := by decide +kernel
theorem bt_bool : bootBuiltins "bool" = some (.type "bool") := by decide +kernel
theorem bt_list : bootBuiltins "list" = some (.type "list") := by decide +kernel
theorem bt_tuple : bootBuiltins "tuple" = some (.type "tuple") := by decide +kernel
theorem bt_dict : bootBuiltins "dict" = some (.type "dict") := by decide +kernel
theorem bb_len : bootBuiltins "len" = some (.builtin "len") := by decide +kernel
theorem bb_abs : bootBuiltins "abs" = some (.builtin "abs") := by decide +kernel
theorem bb_repr : bootBuiltins "repr" = some (.builtin "repr") := by decide +kernel
theorem bb_all : bootBuiltins "all" = some (.builtin "all") := by decide +kernel
theorem bb_isinstance : bootBuiltins "isinstance" = some (.builtin "isinstance") := by decide +kernel
end D

set_option Elab.async false
set_option linter.all false
set_option maxRecDepth 100000
set_option maxHeartbeats 4000000
namespace D
open PySem PySem.Spec PyProof.Rows L2
def isSt : Expr → Bool
  | .Starred .. => true
  | _ => false
theorem star_ok (e : Expr) (es : List Expr) (env : PySem.Env) (h : isSt e = false) : starEach (e :: es) env = (false, eval e env) :: starEach es env := by
  cases e <;> first | rfl | (exact absurd h (by simp [isSt]))
theorem plain_ok (pos : Pos) (env : PySem.Env) : ∀ es : List Expr, (es.all fun e => !isSt e) = true → (backTo pos (starEach es env)).any (·.1) = false
  | [], _ => rfl
  | e :: es, h => by
    rw [List.all_cons, Bool.and_eq_true, Bool.not_eq_true'] at h
    rw [star_ok e es env h.1]
    show (false || (backTo pos (starEach es env)).any (·.1)) = false
    rw [plain_ok pos env es h.2]
    rfl
section
variable {X : Cx} {pos p : Pos} {e : Expr} {es : List Expr} {te : TD} {t : TAd} {x : Str} {id T : String} {r : List V → Hp → VK → Prop} {rd : List W → MH → QD → Prop} {k : Nat} {f : Addr} {fd : FuncData} {ps : List Str} {sp : SpD}
theorem pac (ha : PD X e te) (hr : PAd X es t) (h : isSt e = false := by rfl) : PAd X (e :: es) (dCons te t) := pad_cons ha hr (star_ok e es X.env h)
theorem pcB (hc : CallR X (.builtin id) r) (hd : CallD X.K r rd) (hg : Gl X x) (hm : X.mg x = none) (hv : bootBuiltins x = some (.builtin id)) (ha : PAd X (e :: es) t) (hn : x ≠ "__name__" := by decide) (hdb : (x == ("__debug__" : Str)) = false := by decide)
    (h1 : isSt e = false := by rfl) (h2 : (es.all fun e => !isSt e) = true := by rfl) : PD X (.Call (.Name x p) (e :: es) [] pos) (dCB rd t) := pd_callB hc hd hg hm hv ha hn hdb (star_ok e es X.env h1) (plain_ok pos X.env es h2)
theorem pcF (F : FnOk X.prog X.w X.K X.mg X.base CX0 k f fd ps (upSp X.K sp)) (hr : Room k X.A) (hg : Gl X x) (hm : X.mg x = some (.ref f)) (hk : PySem.W.keepIn X.K (.ref f) = true) (hb : Binds X.K fd ps [])
    (ha : PAd X (e :: es) t) (hdb : (x == ("__debug__" : Str)) = false := by decide) (h1 : isSt e = false := by rfl) (h2 : (es.all fun e => !isSt e) = true := by rfl) :
    PD X (.Call (.Name x p) (e :: es) [] pos) (dCall sp t) := pd_call F hr hg hm hk hb ha hdb (star_ok e es X.env h1) (plain_ok pos X.env es h2)
end
end D

set_option Elab.async false
set_option linter.all false
set_option maxRecDepth 100000
set_option maxHeartbeats 4000000
/-! THE RULES, SEALED. -/
namespace D
open PySem PySem.Spec PyProof.Rows L2
/-- a sealed judgement -/
structure Jd (p : Prop) : Prop where
  h : p
namespace Q
abbrev pm (K : PySem.W.Frag) (p : TD × TD) : TE × TE := (up K p.1, up K p.2)
section
variable {X : Cx} {pos : Pos} {a b c e : Expr} {ta tb tc te : TD} {K : PySem.W.Frag}
theorem pd_var {i : Nat} (h : PE X e (tVar i)) : Jd (PD X e (dVar i)) := ⟨D.pd_var (h := h)⟩
theorem dv (i : Nat) {x : Str} {pos : Pos} (hN : X.N[i]? = some x := by rfl) (hv : Vis X.env.scope x := by first | exact Or.inl rfl | exact Or.inr (Or.inl rfl) | exact Or.inr (Or.inr rfl)) (hd : (x == ("__debug__" : Str)) = false := by decide) (hcd : (x == ("__classdict__" : Str)) = false := by decide) : Jd (PD X (.Name x pos) (dVar i)) := ⟨D.dv (i := i) (hN := hN) (hv := hv) (hd := hd) (hcd := hcd)⟩
theorem pd_c {v : V} {w : W} (h : PE X e (tC v)) (r : ∀ H, RepW X.K H w v) : Jd (PD X e (dC w)) := ⟨D.pd_c (h := h) (r := r)⟩
theorem pd_int {i j pos} : Jd (PD X (.Constant (.int i) j pos) (dC (.d (.int i)))) := ⟨D.pd_int ⟩
theorem pd_bl {b j pos} : Jd (PD X (.Constant (.bool b) j pos) (dC (.d (.bool b)))) := ⟨D.pd_bl ⟩
theorem pd_non {j pos} : Jd (PD X (.Constant .none j pos) (dC (.d .none))) := ⟨D.pd_non ⟩
theorem pd_str {x j pos} : Jd (PD X (.Constant (.str x) j pos) (dC (.d (.str x)))) := ⟨D.pd_str ⟩
theorem pd_globI {x : Str} {i : Int} {t : Tok} {pos : Pos} (hg : Gl X x) (hm : X.mg x = some (.int i t)) (hd : (x == ("__debug__" : Str)) = false := by decide) : Jd (PD X (.Name x pos) (dC (.d (.int i)))) := ⟨D.pd_globI (hg := hg) (hm := hm) (hd := hd)⟩
theorem pd_globS {x : Str} {i : Str} {t : Tok} {pos : Pos} (hg : Gl X x) (hm : X.mg x = some (.str i t)) (hd : (x == ("__debug__" : Str)) = false := by decide) : Jd (PD X (.Name x pos) (dC (.d (.str i)))) := ⟨D.pd_globS (hg := hg) (hm := hm) (hd := hd)⟩
theorem pd_type {x : Str} {n : String} {pos : Pos} (hg : Gl X x) (hm : X.mg x = none) (hv : bootBuiltins x = some (.type n)) (hn : x ≠ "__name__" := by decide) (hd : (x == ("__debug__" : Str)) = false := by decide) : Jd (PD X (.Name x pos) (dC (.t n))) := ⟨D.pd_type (hg := hg) (hm := hm) (hv := hv) (hn := hn) (hd := hd)⟩
theorem pd_op {op : Operator} {r : R2} {rd : W → W → MH → QD → Prop} (ho : OpR X (binaryOp op) r) (hd : OpD X.K r rd) (ha : Jd (PD X a ta)) (hb : Jd (PD X b tb)) : Jd (PD X (.BinOp a op b pos) (dOp rd ta tb)) := ⟨D.pd_op (ho := ho) (hd := hd) (ha := ha.h) (hb := hb.h)⟩
theorem pd_cmp {op : CmpOp} {r : R2} {rd : W → W → MH → QD → Prop} (ho : OpR X (compareOp op) r) (hd : OpD X.K r rd) (ha : Jd (PD X a ta)) (hb : Jd (PD X b tb)) (hm : behindInMarks op b = false := by first | exact nobehind _ (by decide) (by decide) | rfl) : Jd (PD X (.Compare a [op] [b] pos) (dOp rd ta tb)) := ⟨D.pd_cmp (ho := ho) (hd := hd) (ha := ha.h) (hb := hb.h) (hm := hm)⟩
theorem pd_ix {r : R2} {rd : W → W → MH → QD → Prop} (hr : IxR X r) (hd : OpD X.K r rd) (ha : Jd (PD X a ta)) (hb : Jd (PD X b tb)) (hs : PlainIx b := by intro _ _; rfl) : Jd (PD X (.Subscript a b pos) (dOp rd ta tb)) := ⟨D.pd_ix (hr := hr) (hd := hd) (ha := ha.h) (hb := hb.h) (hs := hs)⟩
theorem ptd_cmp {op : CmpOp} {r : R2} {rd : W → W → MH → QD → Prop} (ho : OpR X (compareOp op) r) (hd : OpD X.K r rd) (ha : Jd (PD X a ta)) (hb : Jd (PD X b tb)) (hm : behindInMarks op b = false := by first | exact nobehind _ (by decide) (by decide) | rfl) : Jd (PTd X (.Compare a [op] [b] pos) (dTest (dOp rd ta tb))) := ⟨D.ptd_cmp (ho := ho) (hd := hd) (ha := ha.h) (hb := hb.h) (hm := hm)⟩
theorem ptd_val (h : Jd (PD X e te)) (he : ∀ whole, isTrue e X.env whole = (do let v ← whole; standAt e.pos; holding [v] (truthy v)) := by intro _; rfl) : Jd (PTd X e (dTest te)) := ⟨D.ptd_val (h := h.h) (he := he)⟩
theorem pd_chain {op op' : CmpOp} {r r' : R2} {rd rd' : W → W → MH → QD → Prop} (ho : OpR X (compareOp op) r) (hd : OpD X.K r rd) (ho' : OpR X (compareOp op') r') (hd' : OpD X.K r' rd') (ha : Jd (PD X a ta)) (hb : Jd (PD X b tb)) (hc : Jd (PD X c tc)) (hm : lastMarks [op, op'] [b, c] = false := by with_unfolding_all rfl) : Jd (PD X (.Compare a [op, op'] [b, c] pos) (dChain rd rd' ta tb tc)) := ⟨D.pd_chain (ho := ho) (hd := hd) (ho' := ho') (hd' := hd') (ha := ha.h) (hb := hb.h) (hc := hc.h) (hm := hm)⟩
theorem ptd_chain {op op' : CmpOp} {r r' : R2} {rd rd' : W → W → MH → QD → Prop} (ho : OpR X (compareOp op) r) (hd : OpD X.K r rd) (ho' : OpR X (compareOp op') r') (hd' : OpD X.K r' rd') (ha : Jd (PD X a ta)) (hb : Jd (PD X b tb)) (hc : Jd (PD X c tc)) (hm : lastMarks [op, op'] [b, c] = false := by with_unfolding_all rfl) : Jd (PTd X (.Compare a [op, op'] [b, c] pos) (dTest (dChain rd rd' ta tb tc))) := ⟨D.ptd_chain (ho := ho) (hd := hd) (ho' := ho') (hd' := hd') (ha := ha.h) (hb := hb.h) (hc := hc.h) (hm := hm)⟩
theorem pd_un {op : UnaryOp} {r : V → Hp → VK → Prop} {rd : W → MH → QD → Prop} (ho : UnR X (unaryOp op) r) (hd : UnD X.K r rd) (ha : Jd (PD X a ta)) : Jd (PD X (.UnaryOp op a pos) (dUn rd ta)) := ⟨D.pd_un (ho := ho) (hd := hd) (ha := ha.h)⟩
variable {tA tB : TTd} {rest : List Expr}
theorem pwd_and1 (ha : Jd (PTd X a tA)) : Jd (PWd X (.BoolOp .And [a] pos) tA) := ⟨D.pwd_and1 (ha := ha.h)⟩
theorem pwd_or1 (ha : Jd (PTd X a tA)) : Jd (PWd X (.BoolOp .Or [a] pos) tA) := ⟨D.pwd_or1 (ha := ha.h)⟩
theorem pwd_and (ha : Jd (PTd X a tA)) (hb : Jd (PWd X (.BoolOp .And (b :: rest) pos) tB)) : Jd (PWd X (.BoolOp .And (a :: b :: rest) pos) (dAnd tA tB)) := ⟨D.pwd_and (ha := ha.h) (hb := hb.h)⟩
theorem pwd_or (ha : Jd (PTd X a tA)) (hb : Jd (PWd X (.BoolOp .Or (b :: rest) pos) tB)) : Jd (PWd X (.BoolOp .Or (a :: b :: rest) pos) (dOr tA tB)) := ⟨D.pwd_or (ha := ha.h) (hb := hb.h)⟩
theorem ptd_w (h : Jd (PWd X e tA)) : Jd (PTd X e tA) := ⟨D.ptd_w (h := h.h)⟩
theorem ptd_not (ha : Jd (PTd X a tA)) : Jd (PTd X (.UnaryOp .Not a pos) (dNot tA)) := ⟨D.ptd_not (ha := ha.h)⟩
theorem pd_one {op} (h : Jd (PD X a ta)) : Jd (PD X (.BoolOp op [a] pos) ta) := ⟨D.pd_one (h := h.h)⟩
theorem pd_and (ha : Jd (PD X a ta)) (hb : Jd (PD X (.BoolOp .And (b :: rest) pos) tb)) : Jd (PD X (.BoolOp .And (a :: b :: rest) pos) (dAndV ta tb)) := ⟨D.pd_and (ha := ha.h) (hb := hb.h)⟩
theorem pd_or (ha : Jd (PD X a ta)) (hb : Jd (PD X (.BoolOp .Or (b :: rest) pos) tb)) : Jd (PD X (.BoolOp .Or (a :: b :: rest) pos) (dOrV ta tb)) := ⟨D.pd_or (ha := ha.h) (hb := hb.h)⟩
theorem pd_not (ha : Jd (PD X a ta)) : Jd (PD X (.UnaryOp .Not a pos) (dNotV ta)) := ⟨D.pd_not (ha := ha.h)⟩
theorem pd_ifExp {c : Expr} (hc : Jd (PTd X c tA)) (ha : Jd (PD X a ta)) (hb : Jd (PD X b tb)) : Jd (PD X (.IfExp c a b pos) (dIfE tA ta tb)) := ⟨D.pd_ifExp (hc := hc.h) (ha := ha.h) (hb := hb.h)⟩
variable {es : List Expr} {t : TAd}
theorem pad_nil  : Jd (PAd X [] dNil) := ⟨D.pad_nil ⟩
theorem pad_cons (ha : Jd (PD X e te)) (hr : Jd (PAd X es t)) (hs : starEach (e :: es) X.env = (false, eval e X.env) :: starEach es X.env := by rfl) : Jd (PAd X (e :: es) (dCons te t)) := ⟨D.pad_cons (ha := ha.h) (hr := hr.h) (hs := hs)⟩
theorem pd_lst (h : Jd (PAd X es t)) : Jd (PD X (.List es pos) (dLst t)) := ⟨D.pd_lst (h := h.h)⟩
theorem pd_lstM (h : Jd (PAd X es t)) : Jd (PD X (.List es pos) (dLstM t)) := ⟨D.pd_lstM (h := h.h)⟩
theorem pd_tup {x1} (h : Jd (PAd X es t)) : Jd (PD X (.Tuple es x1 pos) (dTup t)) := ⟨D.pd_tup (h := h.h)⟩
variable {x : Str} {p : Pos} {id T : String} {r : List V → Hp → VK → Prop} {rd : List W → MH → QD → Prop}
theorem pd_callB (hc : CallR X (.builtin id) r) (hd : CallD X.K r rd) (hg : Gl X x) (hm : X.mg x = none) (hv : bootBuiltins x = some (.builtin id)) (ha : Jd (PAd X (e :: es) t)) (hn : x ≠ "__name__" := by decide) (hdb : (x == ("__debug__" : Str)) = false := by decide) (he : starEach (e :: es) X.env = (false, eval e X.env) :: starEach es X.env := by rfl) (hpl : (backTo pos (starEach es X.env)).any (·.1) = false := by rfl) : Jd (PD X (.Call (.Name x p) (e :: es) [] pos) (dCB rd t)) := ⟨D.pd_callB (hc := hc) (hd := hd) (hg := hg) (hm := hm) (hv := hv) (ha := ha.h) (hn := hn) (hdb := hdb) (he := he) (hpl := hpl)⟩
theorem pd_callTy (hc : CallR X (.type T) r) (hd : CallD X.K r rd) (hg : Gl X x) (hm : X.mg x = none) (hv : bootBuiltins x = some (.type T)) (ha : Jd (PAd X (e :: es) t)) (hn : x ≠ "__name__" := by decide) (hdb : (x == ("__debug__" : Str)) = false := by decide) (he : starEach (e :: es) X.env = (false, eval e X.env) :: starEach es X.env := by rfl) (hpl : (backTo pos (starEach es X.env)).any (·.1) = false := by rfl) : Jd (PD X (.Call (.Name x p) (e :: es) [] pos) (dCB rd t)) := ⟨D.pd_callTy (hc := hc) (hd := hd) (hg := hg) (hm := hm) (hv := hv) (ha := ha.h) (hn := hn) (hdb := hdb) (he := he) (hpl := hpl)⟩
end
section
variable {X : Cx} {pos : Pos} {st : Stmt} {sts : List Stmt} {t u : TSd} {e : Expr} {te : TD} {K : PySem.W.Frag}
theorem pssd_nil  : Jd (PSsd X [] dNext) := ⟨D.pssd_nil ⟩
theorem pssd_cons (h1 : Jd (PSd X st t)) (h2 : Jd (PSsd X sts u)) : Jd (PSsd X (st :: sts) (dSeq t u)) := ⟨D.pssd_cons (h1 := h1.h) (h2 := h2.h)⟩
theorem pssd_one (h1 : Jd (PSd X st t)) : Jd (PSsd X [st] t) := ⟨D.pssd_one (h1 := h1.h)⟩
theorem psd_pass  : Jd (PSd X (.Pass pos) dNext) := ⟨D.psd_pass ⟩
theorem psd_expr (he : Jd (PD X e te)) (hs : swapsWith e none pos.line X.env = pure false := by rfl) : Jd (PSd X (.Expr e pos) (dDrop te)) := ⟨D.psd_expr (he := he.h) (hs := hs)⟩
theorem psd_ret (he : Jd (PD X e te)) : Jd (PSd X (.Return (some e) pos) (dRet te)) := ⟨D.psd_ret (he := he.h)⟩
theorem psd_retN  : Jd (PSd X (.Return none pos) dRetN) := ⟨D.psd_retN ⟩
theorem psd_if {c : Expr} {a b : List Stmt} {tc : TTd} (hc : Jd (PTd X c tc)) (ha : Jd (PSsd X a t)) (hb : Jd (PSsd X b u)) : Jd (PSd X (.If c a b pos) (dIf tc t u)) := ⟨D.psd_if (hc := hc.h) (ha := ha.h) (hb := hb.h)⟩
theorem pgd_name {i : Nat} {x : Str} (hN : X.N.Nodup) (hi : X.N[i]? = some x) (hx : Loc X.env.scope x) (hf : X.fn x = true ∨ X.env.scope.names.lookup x = some .local := by first | exact .inl rfl | exact .inr rfl | assumption) : Jd (PGd X (.Name x pos) (gN i)) := ⟨D.pgd_name (hN := hN) (hi := hi) (hx := hx) (hf := hf)⟩
theorem psd_asg {tg : Expr} {g : TGd} (he : Jd (PD X e te)) (hg : Jd (PGd X tg g)) (hs : swapsWithSole [tg] e pos.line X.env = pure false := by rfl) (hw : swappedStores [tg] e X.env = pure none := by rfl) (h1 : (assignEach [tg] X.env).map (·.2) = [assign tg X.env] := by rfl) : Jd (PSd X (.Assign [tg] e pos) (dAsg te g)) := ⟨D.psd_asg (he := he.h) (hg := hg.h) (hs := hs) (hw := hw) (h1 := h1)⟩
theorem psd_set {i : Nat} {x : Str} {pos' : Pos} (hN : X.N.Nodup) (hi : X.N[i]? = some x) (hx : Loc X.env.scope x) (he : Jd (PD X e te)) (hs : swapsWith e (some (.Name x pos')) pos.line X.env = pure false := by rfl) (hf : X.fn x = true ∨ X.env.scope.names.lookup x = some .local := by first | exact .inl rfl | exact .inr rfl | assumption) : Jd (PSd X (.Assign [.Name x pos'] e pos) (dAsg te (gN i))) := ⟨D.psd_set (hN := hN) (hi := hi) (hx := hx) (he := he.h) (hs := hs) (hf := hf)⟩
end
section
variable {X : Cx} {pos p : Pos} {k : Nat} {f : Addr} {fd : FuncData} {ps : List Str} {sp : SpD} {x : Str} {e : Expr} {es : List Expr} {t : TAd}
theorem pd_call (F : FnOk X.prog X.w X.K X.mg X.base CX0 k f fd ps (upSp X.K sp)) (hr : Room k X.A) (hg : Gl X x) (hm : X.mg x = some (.ref f)) (hk : PySem.W.keepIn X.K (.ref f) = true) (hb : Binds X.K fd ps []) (ha : Jd (PAd X (e :: es) t)) (hdb : (x == ("__debug__" : Str)) = false := by decide) (he : starEach (e :: es) X.env = (false, eval e X.env) :: starEach es X.env := by rfl) (hpl : (backTo pos (starEach es X.env)).any (·.1) = false := by rfl) : Jd (PD X (.Call (.Name x p) (e :: es) [] pos) (dCall sp t)) := ⟨D.pd_call (F := F) (hr := hr) (hg := hg) (hm := hm) (hk := hk) (hb := hb) (ha := ha.h) (hdb := hdb) (he := he) (hpl := hpl)⟩
theorem pd_call0 (F : FnOk X.prog X.w X.K X.mg X.base CX0 k f fd ps (upSp X.K sp)) (hr : Room k X.A) (hg : Gl X x) (hm : X.mg x = some (.ref f)) (hk : PySem.W.keepIn X.K (.ref f) = true) (hb : Binds X.K fd ps []) (hdb : (x == ("__debug__" : Str)) = false := by decide) : Jd (PD X (.Call (.Name x p) [] [] pos) (dCall sp dNil)) := ⟨D.pd_call0 (F := F) (hr := hr) (hg := hg) (hm := hm) (hk := hk) (hb := hb) (hdb := hdb)⟩
end
section
variable {P : Program} {w : World} {K : PySem.W.Frag} {mg : Str → Option Value} {base : Heap}
end
section
variable {X : Cx} {K : PySem.W.Frag}
theorem pod_none  : Jd (POd X none dNoPart) := ⟨D.pod_none ⟩
theorem pod_some {e : Expr} {te : TD} (h : Jd (PD X e te)) : Jd (POd X (some e) (dPart te)) := ⟨D.pod_some (h := h.h)⟩
theorem pd_slice {e : Expr} {te : TD} {lo hi : Option Expr} {tl th : TOd} {pos p2 : Pos} (he : Jd (PD X e te)) (hl : Jd (POd X lo tl)) (hu : Jd (POd X hi th)) : Jd (PD X (.Subscript e (.Slice lo hi none p2) pos) (dSl te tl th)) := ⟨D.pd_slice (he := he.h) (hl := hl.h) (hu := hu.h)⟩
theorem pgd_sub {o i : Expr} {to ti : TD} {pos : Pos} (ho : Jd (PD X o to)) (hi : Jd (PD X i ti)) (ha : ∀ v, assign (.Subscript o i pos) X.env v = (do
      let ov ← holding [v] (eval o X.env)
      let iv ← holding [v, ov] (eval i X.env)
      standAt pos
      holding [v, ov, iv] (setItem ov iv v)
      release [v, ov, iv] []) := by intro _; rfl) : Jd (PGd X (.Subscript o i pos) (gSet to ti)) := ⟨D.pgd_sub (ho := ho.h) (hi := hi.h) (ha := ha)⟩
theorem psd_augS {o i e : Expr} {to ti te : TD} {op : Operator} {f : Int → Int → Int} {pos tpos : Pos} (ho : Jd (PD X o to)) (hi : Jd (PD X i ti)) (he : Jd (PD X e te)) (hp : PIp X op (ipI f)) (ha : ∀ ov iv new, augStore i ov iv new = (do holding [new, ov, iv] (setItem ov iv new); release [new, ov, iv] []; pure .next) := by intros; rfl) : Jd (PSd X (.AugAssign (.Subscript o i tpos) op e pos) (dAugS to ti te f)) := ⟨D.psd_augS (ho := ho.h) (hi := hi.h) (he := he.h) (hp := hp) (ha := ha)⟩
end
section
variable {X : Cx} {K : PySem.W.Frag} {tg : Expr}
section
variable {pins : List (Addr × Obj)} {σ : St} {H : Hp} {s : Shared} {R : It → Hp → Prop} {E : Value → Shared → Prop}
end
theorem pid_items {l : Expr} {te : TD} (h : Jd (PD X l te)) : Jd (PId X tg l (dItems te)) := ⟨D.pid_items (h := h.h)⟩
theorem pid_range1 {a : Expr} {ta : TAd} {p pos : Pos} (hg : Gl X "range") (hm : X.mg "range" = none) (ha : Jd (PAd X [a] ta)) (hs : starEach [a] X.env = [(false, eval a X.env)] := by rfl) : Jd (PId X tg (.Call (.Name "range" p) [a] [] pos) (dRng1 ta)) := ⟨D.pid_range1 (hg := hg) (hm := hm) (ha := ha.h) (hs := hs)⟩
theorem pid_range2 {a b : Expr} {ta : TAd} {p pos : Pos} (hg : Gl X "range") (hm : X.mg "range" = none) (ha : Jd (PAd X [a, b] ta)) (hs : starEach [a, b] X.env = [(false, eval a X.env), (false, eval b X.env)] := by rfl) (hs2 : starEach [b] X.env = [(false, eval b X.env)] := by rfl) : Jd (PId X tg (.Call (.Name "range" p) [a, b] [] pos) (dRng2 ta)) := ⟨D.pid_range2 (hg := hg) (hm := hm) (ha := ha.h) (hs := hs) (hs2 := hs2)⟩
theorem psd_for {iter : Expr} {body : List Stmt} {di : TId} {g : TGd} {tb : TSd} {pos : Pos} (hp : PassesOwn (model X.prog X.w) X.A X.env X.xe) (hc : X.calm = true) (hi : Jd (PId X tg iter di)) (hg : Jd (PGd X tg g)) (hb : Jd (PSsd X body tb)) (hs : ∀ x, foldedSetIterable iter X.env x = pure x := by intro _; rfl) : Jd (PSd X (.For tg iter body [] pos) (dFor di g tb)) := ⟨D.psd_for (hp := hp) (hc := hc) (hi := hi.h) (hg := hg.h) (hb := hb.h) (hs := hs)⟩
section
variable {sc : Scope} {own : List Str} {fr : List Nat} {elt iter : Expr} {ifs : List Expr} {pos : Pos} {di : TId} {g : TGd} {tt : TTd} {te : TD}
theorem ptsd_nil  : Jd (PTsd X [] dYes) := ⟨D.ptsd_nil ⟩
theorem ptsd_one {c : Expr} {t : TTd} (h : Jd (PTd X c t)) : Jd (PTsd X [c] t) := ⟨D.ptsd_one (h := h.h)⟩
theorem pd_lc (hc : X.calm = true) (L : LcOk X sc own fr) (hi : Jd (PId X tg iter di)) (hg : ∀ cl C s H ex pl, Jd (PGd (blk X sc (lcN X own fr) cl C s H ex pl) tg g)) (ht : ∀ cl C s H ex pl, Jd (PTsd (blk X sc (lcN X own fr) cl C s H ex pl) ifs tt)) (he : ∀ cl C s H ex pl, Jd (PD (blk X sc (lcN X own fr) cl C s H ex pl) elt te)) (hs : ∀ x, foldedSetIterable iter X.env x = pure x := by intro _; rfl) : Jd (PD X (.ListComp elt [⟨tg, iter, ifs, 0⟩] sc pos) (dLC di g tt te own.length fr)) := ⟨D.pd_lc (hc := hc) (L := L) (hi := hi.h) (hg := fun cl C s H ex pl => (hg cl C s H ex pl).h) (ht := fun cl C s H ex pl => (ht cl C s H ex pl).h) (he := fun cl C s H ex pl => (he cl C s H ex pl).h) (hs := hs)⟩
theorem psd_setLC {i : Nat} {x : Str} {pos' spos : Pos} (hN : X.N.Nodup) (hi' : X.N[i]? = some x) (hx : Loc X.env.scope x) (hc : X.calm = true) (L : LcOk X sc own fr) (hi : Jd (PId X tg iter di)) (hg : ∀ cl C s H ex pl, Jd (PGd (blk X sc (lcN X own fr) cl C s H ex pl) tg g)) (ht : ∀ cl C s H ex pl, Jd (PTsd (blk X sc (lcN X own fr) cl C s H ex pl) ifs tt)) (he : ∀ cl C s H ex pl, Jd (PD (blk X sc (lcN X own fr) cl C s H ex pl) elt te)) (hsw : swapsWith (.ListComp elt [⟨tg, iter, ifs, 0⟩] sc pos) (some (.Name x pos')) spos.line X.env = pure true := by rfl) (hs : ∀ x, foldedSetIterable iter X.env x = pure x := by intro _; rfl) (hf : X.fn x = true ∨ X.env.scope.names.lookup x = some .local := by first | exact .inl rfl | exact .inr rfl | assumption) : Jd (PSd X (.Assign [.Name x pos'] (.ListComp elt [⟨tg, iter, ifs, 0⟩] sc pos) spos) (dAsg (dLC di g tt te own.length fr) (gN i))) := ⟨D.psd_setLC (hN := hN) (hi' := hi') (hx := hx) (hc := hc) (L := L) (hi := hi.h) (hg := fun cl C s H ex pl => (hg cl C s H ex pl).h) (ht := fun cl C s H ex pl => (ht cl C s H ex pl).h) (he := fun cl C s H ex pl => (he cl C s H ex pl).h) (hsw := hsw) (hs := hs) (hf := hf)⟩
end
end
section
variable {X : Cx} {K : PySem.W.Frag}
theorem pd_ms {o e : Expr} {es : List Expr} {to : TD} {t : TAd} {name : Str} {apos cpos : Pos} {id : String} {r : V → List V → Hp → VK → Prop} {rd : W → List W → MH → QD → Prop} (slot : Slot "str" name id) (hty : typeOf (.builtin id) = pure (.type "method_descriptor")) (hm : MtR X id r) (hd : MtD X.K r rd) (ho : Jd (PD X o to)) (ha : Jd (PAd X (e :: es) t)) (hbase : attributeBase o name X.env (eval o X.env) = eval o X.env := by rfl) (hfew : ((backTo cpos (starEach (e :: es) X.env)).all (fun x => !x.1) && (backToKw cpos (keywordEach [] X.env)).all (fun x => x.1.isSome)
      && decide ((e :: es).length + ([] : List Keyword).length + (if ([] : List Keyword).isEmpty then 0 else 1) < 30)) = true := by rfl) (hline : (apos.endLine == cpos.line) = true := by rfl) (hs : starEach (e :: es) X.env = (false, eval e X.env) :: starEach es X.env := by rfl) (hplain : (backTo cpos (starEach es X.env)).any (·.1) = false := by rfl) : Jd (PD X (.Call (.Attribute o name apos) (e :: es) [] cpos) (dMS rd to t)) := ⟨D.pd_ms (slot := slot) (hty := hty) (hm := hm) (hd := hd) (ho := ho.h) (ha := ha.h) (hbase := hbase) (hfew := hfew) (hline := hline) (hs := hs) (hplain := hplain)⟩
theorem pd_join {o e : Expr} {to te : TD} {apos cpos : Pos} (ho : Jd (PD X o to)) (ha : Jd (PD X e te)) (hbase : attributeBase o "join" X.env (eval o X.env) = eval o X.env := by rfl) (hs : starEach [e] X.env = [(false, eval e X.env)] := by rfl) (hfew : ((backTo cpos (starEach [e] X.env)).all (fun x => !x.1) && (backToKw cpos (keywordEach [] X.env)).all (fun x => x.1.isSome)
      && decide (([e] : List Expr).length + ([] : List Keyword).length + (if ([] : List Keyword).isEmpty then 0 else 1) < 30)) = true := by rfl) (hline : (apos.endLine == cpos.line) = true := by rfl) : Jd (PD X (.Call (.Attribute o "join" apos) [e] [] cpos) (dMS rdJoin to (dCons te dNil))) := ⟨D.pd_join (ho := ho.h) (ha := ha.h) (hbase := hbase) (hs := hs) (hfew := hfew) (hline := hline)⟩
theorem pd_dict0 {pos : Pos} : Jd (PD X (.Dict [] [] pos) dDict0) := ⟨D.pd_dict0 ⟩
theorem pd_dict {pos : Pos} {keys : List (Option Expr)} {values : List Expr} {trs : List (TD × TD)} (h : Jd (PPs X pos keys values (trs.map (pm X.K)))) (hall : keys.all (·.isSome) = true := by rfl) (hl : keys.length = values.length := by rfl) (h0 : keys ≠ [] := by simp) (h15 : keys.length ≤ 15 := by decide) : Jd (PD X (.Dict keys values pos) (dDict trs)) := ⟨D.pd_dict (h := h.h) (hall := hall) (hl := hl) (h0 := h0) (h15 := h15)⟩
end
section
variable {X : Cx} {pos p : Pos} {e : Expr} {es : List Expr} {te : TD} {t : TAd} {x : Str} {id T : String} {r : List V → Hp → VK → Prop} {rd : List W → MH → QD → Prop} {k : Nat} {f : Addr} {fd : FuncData} {ps : List Str} {sp : SpD}
theorem pac (ha : Jd (PD X e te)) (hr : Jd (PAd X es t)) (h : isSt e = false := by rfl) : Jd (PAd X (e :: es) (dCons te t)) := ⟨D.pac (ha := ha.h) (hr := hr.h) (h := h)⟩
theorem pcB (hc : CallR X (.builtin id) r) (hd : CallD X.K r rd) (hg : Gl X x) (hm : X.mg x = none) (hv : bootBuiltins x = some (.builtin id)) (ha : Jd (PAd X (e :: es) t)) (hn : x ≠ "__name__" := by decide) (hdb : (x == ("__debug__" : Str)) = false := by decide) (h1 : isSt e = false := by rfl) (h2 : (es.all fun e => !isSt e) = true := by rfl) : Jd (PD X (.Call (.Name x p) (e :: es) [] pos) (dCB rd t)) := ⟨D.pcB (hc := hc) (hd := hd) (hg := hg) (hm := hm) (hv := hv) (ha := ha.h) (hn := hn) (hdb := hdb) (h1 := h1) (h2 := h2)⟩
theorem pcF (F : FnOk X.prog X.w X.K X.mg X.base CX0 k f fd ps (upSp X.K sp)) (hr : Room k X.A) (hg : Gl X x) (hm : X.mg x = some (.ref f)) (hk : PySem.W.keepIn X.K (.ref f) = true) (hb : Binds X.K fd ps []) (ha : Jd (PAd X (e :: es) t)) (hdb : (x == ("__debug__" : Str)) = false := by decide) (h1 : isSt e = false := by rfl) (h2 : (es.all fun e => !isSt e) = true := by rfl) : Jd (PD X (.Call (.Name x p) (e :: es) [] pos) (dCall sp t)) := ⟨D.pcF (F := F) (hr := hr) (hg := hg) (hm := hm) (hk := hk) (hb := hb) (ha := ha.h) (hdb := hdb) (h1 := h1) (h2 := h2)⟩
end
theorem pps_nil {X : Cx} {pos : Pos} : Jd (PPs X pos [] [] (([] : List (TD × TD)).map (pm X.K))) := ⟨L2.pps_nil⟩
theorem pps_cons {X : Cx} {pos : Pos} {k v : Expr} {ks : List (Option Expr)} {vs : List Expr} {tk tv : TD} {trs : List (TD × TD)} (hk : Jd (PD X k tk)) (hv : Jd (PD X v tv)) (hr : Jd (PPs X pos ks vs (trs.map (pm X.K)))) : Jd (PPs X pos (some k :: ks) (v :: vs) (((tk, tv) :: trs).map (pm X.K))) := ⟨L2.pps_cons hk.h hv.h hr.h⟩
end Q
end D

set_option Elab.async false
set_option linter.all false
set_option maxRecDepth 100000
set_option maxHeartbeats 4000000
/-! DICTS OF THE STORE: tables whose keys are ints, texts, or tuples of these. -/
namespace D
open PySem PySem.Spec PyProof.Rows L2
section
variable {κ α : Type} [DecidableEq κ]
def tget (t : List (κ × α)) (k : κ) : Option α := (t.find? fun p => decide (p.1 = k)).map (·.2)
def tput (t : List (κ × α)) (k : κ) (v : α) : List (κ × α) := if (t.any fun p => decide (p.1 = k)) = true then t.map (fun p => if p.1 = k then (p.1, v) else p) else t ++ [(k, v)]
def OR {β γ : Type} (R : β → γ → Prop) : Option β → Option γ → Prop
  | some a, some b => R a b
  | none, none => True
  | _, _ => False
theorem OR.some_of {β γ : Type} {R : β → γ → Prop} {a : β} {o : Option γ} (h : OR R (some a) o) : ∃ b, o = some b ∧ R a b := by
  cases o with
  | none => exact h.elim
  | some b => exact ⟨b, rfl, h⟩
theorem OR.none_of {β γ : Type} {R : β → γ → Prop} {o : Option γ} (h : OR R none o) : o = none := by
  cases o with
  | none => rfl
  | some b => exact h.elim
theorem OR.isSome {β γ : Type} {R : β → γ → Prop} : ∀ {a : Option β} {o : Option γ}, OR R a o → a.isSome = o.isSome
  | some _, some _, _ => rfl
  | none, none, _ => rfl
  | some _, none, h => h.elim
  | none, some _, h => h.elim
theorem tb_get {R : α → V → Prop} (k : κ) : ∀ {t : List (κ × α)} {l : List (κ × V)}, Paired (fun p q => p.1 = q.1 ∧ R p.2 q.2) t l → OR R (tget t k) (valV l k)
  | _, _, .nil => True.intro
  | _, _, .cons (a := p) (b := q) (l₁ := t1) h t => by
    obtain ⟨h1, h2⟩ := h
    by_cases e : p.1 = k
    · rw [valV_pos (h1.symm.trans e), show tget (p :: t1) k = some p.2 by simp [tget, List.find?_cons, e]]
      exact h2
    · rw [valV_neg (fun z => e (h1.trans z)), show tget (p :: t1) k = tget t1 k by simp [tget, List.find?_cons, e]]
      exact tb_get k t
theorem tb_any {R : α → V → Prop} (k : κ) : ∀ {t : List (κ × α)} {l : List (κ × V)}, Paired (fun p q => p.1 = q.1 ∧ R p.2 q.2) t l → (t.any fun p => decide (p.1 = k)) = (l.any fun p => decide (p.1 = k))
  | _, _, .nil => rfl
  | _, _, .cons (a := p) (b := q) h t => by
    simp only [List.any_cons]
    rw [tb_any k t, h.1]
theorem tb_map {R : α → V → Prop} (k : κ) {a : α} {v : V} (r : R a v) : ∀ {t : List (κ × α)} {l : List (κ × V)}, Paired (fun p q => p.1 = q.1 ∧ R p.2 q.2) t l →
    Paired (fun p q => p.1 = q.1 ∧ R p.2 q.2) (t.map fun p => if p.1 = k then (p.1, a) else p) (l.map fun p => if p.1 = k then (p.1, v) else p)
  | _, _, .nil => .nil
  | _, _, .cons (a := p) (b := q) h t => by
    simp only [List.map_cons]
    refine .cons ?_ (tb_map k r t)
    by_cases e : p.1 = k
    · rw [if_pos e, if_pos (h.1.symm.trans e)]
      exact ⟨h.1, r⟩
    · rw [if_neg e, if_neg (fun z => e (h.1.trans z))]
      exact h
theorem tb_snoc {P : κ × α → κ × V → Prop} {p : κ × α} {q : κ × V} (r : P p q) : ∀ {t : List (κ × α)} {l : List (κ × V)}, Paired P t l → Paired P (t ++ [p]) (l ++ [q])
  | _, _, .nil => .cons r .nil
  | _, _, .cons h t => .cons h (tb_snoc r t)
theorem tb_put {R : α → V → Prop} (k : κ) {a : α} {v : V} (r : R a v) {t : List (κ × α)} {l : List (κ × V)} (h : Paired (fun p q => p.1 = q.1 ∧ R p.2 q.2) t l) :
    Paired (fun p q => p.1 = q.1 ∧ R p.2 q.2) (tput t k a) (putK l k v) := by
  unfold tput putK
  rw [tb_any k h]
  split
  · exact tb_map k r h
  · exact tb_snoc ⟨rfl, r⟩ h
theorem tb_len {P : κ × α → κ × V → Prop} : ∀ {t : List (κ × α)} {l : List (κ × V)}, Paired P t l → t.length = l.length
  | _, _, .nil => rfl
  | _, _, .cons _ t => by simp [tb_len t]
/-! facts for readings -/
theorem tget_nil {k : κ} : tget ([] : List (κ × α)) k = none := rfl
theorem tget_cons {p : κ × α} {t : List (κ × α)} {k : κ} : tget (p :: t) k = if p.1 = k then some p.2 else tget t k := by
  by_cases e : p.1 = k <;> simp [tget, List.find?_cons, e]
theorem tget_any (k : κ) : ∀ t : List (κ × α), (t.any fun p => decide (p.1 = k)) = (tget t k).isSome
  | [] => rfl
  | p :: t => by
    rw [List.any_cons, tget_any k t, tget_cons]
    by_cases e : p.1 = k <;> simp [e]
theorem tget_snoc (k j : κ) (y : α) : ∀ t : List (κ × α), tget t k = none → tget (t ++ [(k, y)]) j = if j = k then some y else tget t j
  | [], _ => by
    rw [List.nil_append, tget_cons, tget_nil]
    by_cases e : j = k
    · subst e; simp
    · simp [e, Ne.symm e]
  | p :: t, h => by
    rw [tget_cons] at h
    by_cases e : p.1 = k
    · simp [e] at h
    · rw [if_neg e] at h
      rw [List.cons_append, tget_cons, tget_cons, tget_snoc k j y t h]
      by_cases f : p.1 = j
      · rw [if_pos f, if_pos f]
        by_cases g : j = k
        · exact absurd (f.trans g) e
        · rw [if_neg g]
      · rw [if_neg f, if_neg f]
theorem tget_map (k j : κ) (y : α) : ∀ t : List (κ × α), tget (t.map fun p => if p.1 = k then (p.1, y) else p) j = (tget t j).map fun x => if j = k then y else x
  | [] => rfl
  | p :: t => by
    rw [List.map_cons, tget_cons, tget_cons, tget_map k j y t]
    by_cases e : p.1 = k
    · rw [if_pos e]
      by_cases f : p.1 = j
      · have g : j = k := f.symm.trans e
        rw [if_pos f, if_pos f, Option.map_some, if_pos g]
      · rw [if_neg f, if_neg f]
    · rw [if_neg e]
      by_cases f : p.1 = j
      · have g : ¬ j = k := fun z => e (f.trans z)
        simp [f, g]
      · simp [f]
theorem tget_put (t : List (κ × α)) (k j : κ) (y : α) : tget (tput t k y) j = if j = k then some y else tget t j := by
  unfold tput
  have h := tget_any k t
  cases q : tget t k with
  | none =>
    rw [q] at h
    rw [h, if_neg (by simp)]
    exact tget_snoc k j y t q
  | some z =>
    rw [q] at h
    rw [h, if_pos (by rfl), tget_map]
    by_cases e : j = k
    · subst e; rw [q]; simp
    · rw [if_neg e]
      cases tget t j <;> simp [e]
theorem len_put (t : List (κ × α)) (k : κ) (y : α) : (tput t k y).length ≤ t.length + 1 := by
  unfold tput
  split <;> simp
end
/-- a key as a value -/
def kW (k : Key) : W := .d (keyD k)
theorem kW_rep {K : PySem.W.Frag} {H : Hp} {k : Key} {v : V} (r : RepW K H (kW k) v) : v = kV k := key_rep r
def tkW (ks : List Key) : W := .d (.tuple (ks.map keyD))
theorem keysA {K : PySem.W.Frag} {H : Hp} : ∀ {ks : List Key} {vs : List V}, RepA K H (ks.map keyD) vs → vs = ks.map kV
  | [], vs, h => by simpa [RepA] using h
  | k :: ks, vs, h => by
    simp only [List.map_cons, RepA] at h
    obtain ⟨v, r, e, h1, h2⟩ := h
    rw [e, key_rep h1, keysA h2]
    rfl
theorem keysW {K : PySem.W.Frag} {H : Hp} {ks : List Key} {vs : List V} (h : RepWs K H (ks.map kW) vs) : vs = ks.map kV := by
  refine keysA (K := K) (H := H) ?_
  have e : ks.map kW = (ks.map keyD).map W.d := by simp [kW]
  rw [e] at h
  exact h.data

/-! ### a dict asked at a key that may be any tuple -/
/-- a dict that is walked -/
def Rd2 (H : Hp) (a : Addr) (u : HO) : Prop := Rd H a u ∨ ∃ o, H a = some (.frz o (.frz o u))
theorem dk_rd2 {P : Program} {w : World} {H : Hp} {h : Heap} {a : Addr} {kvs : List (Key × V)} (ok : HOk P w H h) (e : Rd2 H a (.dK kvs)) : kvs.length ≤ sizeLine ∧ (a == sysModules) = false ∧ ∃ vs, KV kvs vs ∧ h.DictOf (mixKind P w) a vs := by
  rcases e with e | ⟨o, e⟩
  · exact dk_rd ok e
  · exact (ok a _ e).2.2
def DGetS (K : PySem.W.Frag) (H : Hp) (a : Addr) (y : V) (r : Option V) : Prop :=
  (∃ kvs k, Rd2 H a (.dK kvs) ∧ y = kV k ∧ r = valV kvs k) ∨ ∃ kvs k b, Rd H a (.dT kvs) ∧ y = .ref b ∧ SqT K H b (k.map kV) ∧ r = valV kvs k
theorem key_sq {X : Cx} {pins : List (Addr × Obj)} {σ : St} {H : Hp} {s : Shared} {b : Addr} {ks : List Key} (I : Inv X pins σ H s) (h : SqT X.K H b (ks.map kV)) : (tupleKind (mixKind X.prog X.w)).is s.heap ks b := by
  obtain ⟨its, r, ⟨o, h1, h2, n, h3⟩, _⟩ := I.tuple h
  exact ⟨o, its.toArray, n, h1, h2, h3, by simpa using items_are r⟩
section
variable {X : Cx} {pins : List (Addr × Obj)} {σ : St} {H : Hp} {s : Shared} {a : Addr} {y d : V} {u r : Value} {o : Option V} {A : Around} {E : Value → Shared → Prop}
theorem ds_in {Q : Value → Shared → Prop} (hu : A.units + 1 < cLine) (I : Inv X pins σ H s) (g : DGetS X.K H a y o) (ry : RelV y u) (h : ∀ s', Inv X pins σ H s' → Q (.bool o.isSome) s') :
    wpAny (model X.prog X.w) A (compareOp .In u (.ref a)) Q E s := by
  rcases g with ⟨kvs, k, e, ey, l⟩ | ⟨kvs, k, b, e, ey, eb, l⟩
  · subst ey
    obtain ⟨z, hd, vs, rel, dd⟩ := dk_rd2 I.hok e
    refine wpAny_in_of (kV_is ry) hd dd.mapOf ?_
    rw [← (rel.val k).isSome_eq, ← l]
    exact h _ (I.tok _)
  · subst ey
    cases (show u = Value.ref b from ry)
    obtain ⟨z, hd, xs, rel, dd⟩ := dt_rd I.hok e
    refine wpAny_in_heap (tupleKind_room_in1 hu) (key_sq I eb) hd dd ?_
    have q := (rel.val k).isSome_eq
    rw [Option.isSome_map] at q
    rw [← q, ← l]
    exact h _ (I.tok _)
theorem ds_notIn {Q : Value → Shared → Prop} (hu : A.units + 1 < cLine) (I : Inv X pins σ H s) (g : DGetS X.K H a y o) (ry : RelV y u) (h : ∀ s', Inv X pins σ H s' → Q (.bool (!o.isSome)) s') :
    wpAny (model X.prog X.w) A (compareOp .NotIn u (.ref a)) Q E s := by
  rcases g with ⟨kvs, k, e, ey, l⟩ | ⟨kvs, k, b, e, ey, eb, l⟩
  · subst ey
    obtain ⟨z, hd, vs, rel, dd⟩ := dk_rd2 I.hok e
    refine wpAny_notIn_of (kV_is ry) hd dd.mapOf ?_
    rw [← (rel.val k).isSome_eq, ← l]
    exact h _ (I.tok _)
  · subst ey
    cases (show u = Value.ref b from ry)
    obtain ⟨z, hd, xs, rel, dd⟩ := dt_rd I.hok e
    refine wpAny_notIn_heap (tupleKind_room_in1 hu) (key_sq I eb) hd dd ?_
    have q := (rel.val k).isSome_eq
    rw [Option.isSome_map] at q
    rw [← q, ← l]
    exact h _ (I.tok _)
theorem ds_get1 {Q : Value → Shared → Prop} (hu : A.units + 1 < cLine) (I : Inv X pins σ H s) (g : DGetS X.K H a y o) (ry : RelV y u) (h : ∀ w' s', Inv X pins σ H s' → RelV (o.getD .non) w' → Q w' s') :
    wpAny (model X.prog X.w) A (call (.builtin "dict.get") [.ref a, u]) Q E s := by
  rcases g with ⟨kvs, k, e, ey, l⟩ | ⟨kvs, k, b, e, ey, eb, l⟩
  · subst ey
    obtain ⟨z, hd, vs, rel, dd⟩ := dk_rd2 I.hok e
    refine call_meetsIn PySem.F.slot_dict_get dd.typeIs PySem.F.entry_dict_get (PySem.F.args_dict_get_2 _ _) (meets_dict_get (mixKind X.prog X.w) a (kV_is ry) hd) ⟨_, dd.mapOf, h _ _ (I.tok _) ?_⟩
    rw [l]
    exact (rel.val k).getD rfl
  · subst ey
    cases (show u = Value.ref b from ry)
    obtain ⟨z, hd, xs, rel, dd⟩ := dt_rd I.hok e
    refine call_meetsIn PySem.F.slot_dict_get dd.typeIs PySem.F.entry_dict_get (PySem.F.args_dict_get_2 _ _) (meetsH_dict_get (tupleKind (mixKind X.prog X.w)) a b hd) ⟨tupleKind_room_in1 hu, k, xs, key_sq I eb, dd, h _ _ (I.tok _) ?_⟩
    rw [l]
    exact (rel.val k).getD rfl
theorem ds_get2 {Q : Value → Shared → Prop} (hu : A.units + 1 < cLine) (I : Inv X pins σ H s) (g : DGetS X.K H a y o) (ry : RelV y u) (rd : RelV d r) (h : ∀ w' s', Inv X pins σ H s' → RelV (o.getD d) w' → Q w' s') :
    wpAny (model X.prog X.w) A (call (.builtin "dict.get") [.ref a, u, r]) Q E s := by
  rcases g with ⟨kvs, k, e, ey, l⟩ | ⟨kvs, k, b, e, ey, eb, l⟩
  · subst ey
    obtain ⟨z, hd, vs, rel, dd⟩ := dk_rd2 I.hok e
    refine call_meetsIn PySem.F.slot_dict_get dd.typeIs PySem.F.entry_dict_get (PySem.F.args_dict_get_3 _ _ _) (meets_dict_get_default (mixKind X.prog X.w) a (kV_is ry) hd r) ⟨_, dd.mapOf, h _ _ (I.tok _) ?_⟩
    rw [l]
    exact (rel.val k).getD rd
  · subst ey
    cases (show u = Value.ref b from ry)
    obtain ⟨z, hd, xs, rel, dd⟩ := dt_rd I.hok e
    refine call_meetsIn PySem.F.slot_dict_get dd.typeIs PySem.F.entry_dict_get (PySem.F.args_dict_get_3 _ _ _) (meetsH_dict_get_default (tupleKind (mixKind X.prog X.w)) a b hd r) ⟨tupleKind_room_in1 hu, k, xs, key_sq I eb, dd, h _ _ (I.tok _) ?_⟩
    rw [l]
    exact (rel.val k).getD rd
/-- d[y] -/
theorem ds_getItem {v : V} {Q : Value → Shared → Prop} (hu : A.units + 1 < cLine) (I : Inv X pins σ H s) {kvs : List (Key × V)} {k : Key} (e : Rd2 H a (.dK kvs)) (l : valV kvs k = some v) (ry : RelV (kV k) u) (h : ∀ w' s', Inv X pins σ H s' → RelV v w' → Q w' s') :
    s.TypeIs (.ref a) "dict" ∧ wpAny (model X.prog X.w) A (getItem (.ref a) u) Q E s := by
  obtain ⟨z, hd, vs, rel, dd⟩ := dk_rd2 I.hok e
  obtain ⟨w', hw, rw'⟩ := RelO.some_of (v := v) (o := valueAt vs k) (by rw [← l]; exact rel.val k)
  exact ⟨dd.typeIs, wpAny_getItem_of (kV_is ry) dd.mapOf hw (h w' _ (I.tok _) rw')⟩
end
end D

set_option Elab.async false
set_option linter.all false
set_option maxRecDepth 100000
set_option maxHeartbeats 4000000
/-! RULES over dicts of the store. -/
namespace D
open PySem PySem.Spec PyProof.Rows L2
/-- what a dict tells of a key -/
inductive DLook (M : MH) : W → W → Option W → Prop
  | k {a : Addr} {kvs : List (Key × W)} {k : Key} (h : M a = some (.dic kvs)) : DLook M (.m a) (kW k) (tget kvs k)
  | t {a : Addr} {kvs : List (List Key × W)} {ks : List Key} (h : M a = some (.dct kvs)) : DLook M (.m a) (tkW ks) (tget kvs ks)
  | f {a : Addr} {kvs : List (Key × W)} {k : Key} (h : M a = some (.fdic kvs)) : DLook M (.m a) (kW k) (tget kvs k)
  | d {kvs : List (Key × PyData)} {k : Key} : DLook M (.d (.dict (kvs.map fun p => (keyD p.1, p.2)))) (kW k) ((tget kvs k).map W.d)
inductive DIs (M : MH) : W → Prop
  | k {a : Addr} {kvs : List (Key × W)} (h : M a = some (.dic kvs)) : DIs M (.m a)
  | t {a : Addr} {kvs : List (List Key × W)} (h : M a = some (.dct kvs)) : DIs M (.m a)
  | d {kvs : List (PyData × PyData)} : DIs M (.d (.dict kvs))
theorem keyD_inj {a b : Key} (h : keyD a = keyD b) : a = b := by
  cases a <;> cases b <;> simp [keyD] at h <;> rw [h]
theorem repK_paired {K : PySem.W.Frag} {H : Hp} : ∀ {kvs : List (Key × PyData)} {l : List (Key × V)}, RepK K H (kvs.map fun p => (keyD p.1, p.2)) l → Paired (fun (p : Key × PyData) (q : Key × V) => p.1 = q.1 ∧ RepD K H p.2 q.2) kvs l
  | [], l, h => by
    simp only [List.map_nil, RepK] at h
    subst h
    exact .nil
  | p :: kvs, l, h => by
    simp only [List.map_cons, RepK] at h
    obtain ⟨key, v, r, e, ek, h1, h2⟩ := h
    subst e
    exact .cons ⟨keyD_inj ek, h1⟩ (repK_paired h2)
theorem DIs.sound {K : PySem.W.Frag} {H : Hp} {M : MH} {w : W} {x : V} (g : DIs M w) (r : RepW K H w x) (m : MAbs K H M) : ∃ a, x = .ref a ∧ IsD H a := by
  cases g with
  | k h =>
    obtain ⟨l, e, _⟩ := m _ _ h
    exact ⟨_, r, .inl ⟨l, .inl e⟩⟩
  | t h =>
    obtain ⟨l, e, _⟩ := m _ _ h
    exact ⟨_, r, .inr ⟨l, .inl e⟩⟩
  | d =>
    simp only [RepW, RepD] at r
    obtain ⟨a, o, l, e, h, _⟩ := r
    exact ⟨a, e, .inl ⟨l, .inr ⟨o, h⟩⟩⟩
theorem DLook.sound {K : PySem.W.Frag} {H : Hp} {M : MH} {w y : W} {o : Option W} {x v : V} (g : DLook M w y o) (r : RepW K H w x) (ry : RepW K H y v) (m : MAbs K H M) :
    ∃ a p, x = .ref a ∧ DGetS K H a v p ∧ OR (RepW K H) o p := by
  cases g with
  | @k a kvs k h =>
    obtain ⟨l, e, pr⟩ := m _ _ h
    exact ⟨_, _, r, .inl ⟨l, k, .inl (.inl e), kW_rep ry, rfl⟩, tb_get k pr⟩
  | @f a kvs k h =>
    obtain ⟨ob, l, e, pr⟩ := m _ _ h
    exact ⟨_, _, r, .inl ⟨l, k, .inr ⟨ob, e⟩, kW_rep ry, rfl⟩, tb_get k pr⟩
  | @t a kvs ks h =>
    obtain ⟨l, e, pr⟩ := m _ _ h
    simp only [tkW, RepW, RepD] at ry
    obtain ⟨b, vs, eb, hs, ra⟩ := ry
    rw [keysA ra] at hs
    exact ⟨_, _, r, .inr ⟨l, ks, b, .inl e, eb, hs, rfl⟩, tb_get ks pr⟩
  | @d kvs k =>
    simp only [RepW, RepD] at r
    obtain ⟨a, ob, l, e, h, rk⟩ := r
    refine ⟨a, _, e, .inl ⟨l, k, .inl (.inr ⟨ob, h⟩), kW_rep ry, rfl⟩, ?_⟩
    have g := tb_get (R := fun d q => RepD K H d q) k (repK_paired rk)
    cases q : tget kvs k with
    | none => rw [q] at g; rw [OR.none_of g]; exact True.intro
    | some z =>
      rw [q] at g
      obtain ⟨b, eb, rb⟩ := OR.some_of g
      rw [eb]
      exact rb
/-! L2's rules with any tuple as a key -/
section
variable {X : Cx} {o i e f : Expr} {pos apos cpos : Pos} {td ty tx : TE}
def tDInS (K : PySem.W.Frag) (ty td : TE) : TE := fun σ H Q => ty σ H fun y H1 => td σ H1 fun x H2 => ∃ a o, x = .ref a ∧ DGetS K H2 a y o ∧ Q (.bl o.isSome) H2
def tDNotInS (K : PySem.W.Frag) (ty td : TE) : TE := fun σ H Q => ty σ H fun y H1 => td σ H1 fun x H2 => ∃ a o, x = .ref a ∧ DGetS K H2 a y o ∧ Q (.bl (!o.isSome)) H2
theorem pc_dinS (hu : X.A.units + 1 < cLine) (hi : PE X i ty) (ho : PE X o td) : PC X .In i o (tDInS X.K ty td) := by
  intro pins s σ H Q I h
  refine thn (hi pins s σ H _ I h) fun iv s1 ⟨y, H1, I1, ry, q1⟩ => thn (ho pins s1 σ H1 _ I1 q1) fun u s2 ⟨x, H2, I2, rx, a, ov, ex, g, q2⟩ => ?_
  subst ex
  obtain rfl : u = Value.ref a := rx
  exact ds_in hu I2 g ry fun s3 I3 => ⟨.bl ov.isSome, H2, I3, rfl, q2⟩
theorem pc_dnotinS (hu : X.A.units + 1 < cLine) (hi : PE X i ty) (ho : PE X o td) : PC X .NotIn i o (tDNotInS X.K ty td) := by
  intro pins s σ H Q I h
  refine thn (hi pins s σ H _ I h) fun iv s1 ⟨y, H1, I1, ry, q1⟩ => thn (ho pins s1 σ H1 _ I1 q1) fun u s2 ⟨x, H2, I2, rx, a, ov, ex, g, q2⟩ => ?_
  subst ex
  obtain rfl : u = Value.ref a := rx
  exact ds_notIn hu I2 g ry fun s3 I3 => ⟨.bl (!ov.isSome), H2, I3, rfl, q2⟩
def tDGet1S (K : PySem.W.Frag) (td ty : TE) : TE := fun σ H Q => td σ H fun x H1 => ∃ a, x = .ref a ∧ IsD H1 a ∧ ty σ H1 fun y H2 => ∃ o, DGetS K H2 a y o ∧ Q (o.getD .non) H2
def tDGet2S (K : PySem.W.Frag) (td ty tx : TE) : TE := fun σ H Q => td σ H fun x H1 => ∃ a, x = .ref a ∧ IsD H1 a ∧ ty σ H1 fun y H2 => tx σ H2 fun z H3 => ∃ o, DGetS K H3 a y o ∧ Q (o.getD z) H3
theorem pe_dget1S (hu : X.A.units + 1 < cLine) (ho : PE X o td) (he : PE X e ty) (m : M1 X o "get" apos e cpos) : PE X (.Call (.Attribute o "get" apos) [e] [] cpos) (tDGet1S X.K td ty) := by
  intro pins s σ H Q I h
  refine wpAny_Call_method m.base m.few m.line PySem.F.plainAttrs_dict PySem.F.slot_dict_get PySem.F.type_dict_get (thn (ho pins s σ H _ I h) fun u s1 ⟨x, H1, I1, rx, a, ex, d, q1⟩ => ?_)
  subst ex
  obtain rfl : u = Value.ref a := rx
  obtain ⟨t1, t2, _⟩ := isD_at I1 d
  refine ⟨t1, t2, ?_⟩
  rw [m.trees]
  refine Calls.callWith_builtin rfl (Calls.evalArgs_plain (Calls.spliced_cons (thn (he pins s1 σ H1 _ I1 q1) fun iv s2 ⟨y, H2, I2, ry, ov, g, q2⟩ => Calls.spliced_nil ?_)))
  exact ds_get1 hu I2 g ry fun w' s3 I3 rw' => ⟨_, H2, I3, rw', q2⟩
theorem pe_dget2S (hu : X.A.units + 1 < cLine) (ho : PE X o td) (he : PE X e ty) (hf : PE X f tx) (m : M2 X o "get" apos e f cpos) : PE X (.Call (.Attribute o "get" apos) [e, f] [] cpos) (tDGet2S X.K td ty tx) := by
  intro pins s σ H Q I h
  refine wpAny_Call_method m.base m.few m.line PySem.F.plainAttrs_dict PySem.F.slot_dict_get PySem.F.type_dict_get (thn (ho pins s σ H _ I h) fun u s1 ⟨x, H1, I1, rx, a, ex, d, q1⟩ => ?_)
  subst ex
  obtain rfl : u = Value.ref a := rx
  obtain ⟨t1, t2, _⟩ := isD_at I1 d
  refine ⟨t1, t2, ?_⟩
  rw [m.trees]
  refine Calls.callWith_builtin rfl (Calls.evalArgs_plain (Calls.spliced_cons (thn (he pins s1 σ H1 _ I1 q1) fun iv s2 ⟨y, H2, I2, ry, q2⟩ =>
    Calls.spliced_cons (thn (hf pins s2 σ H2 _ I2 q2) fun fv s3 ⟨z, H3, I3, rz, ov, g, q3⟩ => Calls.spliced_nil ?_))))
  exact ds_get2 hu I3 g ry rz fun w' s4 I4 rw' => ⟨_, H3, I4, rw', q3⟩
/-- d.setdefault(k, x) -/
def tDSet (td ty tx : TE) : TE := fun σ H Q => td σ H fun x H1 => ∃ a, x = .ref a ∧ IsD H1 a ∧ ty σ H1 fun y H2 => tx σ H2 fun z H3 => ∃ kvs k, H3 a = some (.dK kvs) ∧ y = kV k ∧ kvs.length < sizeLine ∧
  (∀ v, valV kvs k = some v → Q v H3) ∧ (valV kvs k = none → Q z (upd H3 a (.dK (putK kvs k z))))
theorem pe_dsetdef (ho : PE X o td) (he : PE X e ty) (hf : PE X f tx) (m : M2 X o "setdefault" apos e f cpos) : PE X (.Call (.Attribute o "setdefault" apos) [e, f] [] cpos) (tDSet td ty tx) := by
  intro pins s σ H Q I h
  refine wpAny_Call_method m.base m.few m.line PySem.F.plainAttrs_dict PySem.F.slot_dict_setdefault PySem.F.type_dict_setdefault (thn (ho pins s σ H _ I h) fun u s1 ⟨x, H1, I1, rx, a, ex, d, q1⟩ => ?_)
  subst ex
  obtain rfl : u = Value.ref a := rx
  obtain ⟨t1, t2, _⟩ := isD_at I1 d
  refine ⟨t1, t2, ?_⟩
  rw [m.trees]
  refine Calls.callWith_builtin rfl (Calls.evalArgs_plain (Calls.spliced_cons (thn (he pins s1 σ H1 _ I1 q1) fun iv s2 ⟨y, H2, I2, ry, q2⟩ =>
    Calls.spliced_cons (thn (hf pins s2 σ H2 _ I2 q2) fun fv s3 ⟨z, H3, I3, rz, kvs, k, ea, ey, hl, q3, q4⟩ => Calls.spliced_nil ?_))))
  subst ey
  obtain ⟨zz, hd, vs, rel, dd⟩ := dk_of I3.hok ea
  refine call_meetsIn PySem.F.slot_dict_setdefault dd.typeIs PySem.F.entry_dict_setdefault (PySem.F.args_dict_setdefault_3 _ _ _) (kt_meets_setdefault (mixKind X.prog X.w) a (kV_is ry) hd fv) ⟨vs, dd, by rw [← rel.length]; exact zz, fun v ev => ?_, fun en h' dd' hs => ?_⟩
  · have g := rel.val k
    rw [ev] at g
    cases q : valV kvs k with
    | none => rw [q] at g; exact g.elim
    | some v' =>
      rw [q] at g
      exact ⟨v', H3, I3.tok _, g, q3 v' q⟩
  · have g := rel.val k
    rw [en] at g
    cases q : valV kvs k with
    | some v' => rw [q] at g; exact g.elim
    | none =>
      have he : ∃ q, h'.get? a = some q := let ⟨q, _, _, hq, _⟩ := dd'; ⟨q, hq⟩
      have hl2 : (putK kvs k z).length ≤ sizeLine := by have := length_putK kvs k z; omega
      exact ⟨z, _, d_write I3 (by rw [ea]; exact True.intro) hs he (dk_new hl2 hd (rel.put k rz) dd'), rz, q4 q⟩
end
section
variable {X : Cx} {o i : Expr} {pos : Pos} {td ty : TE}
def tDGetS (td ty : TE) : TE := fun σ H Q => td σ H fun x H1 => ty σ H1 fun y H2 => ∃ a kvs k v, x = .ref a ∧ Rd2 H2 a (.dK kvs) ∧ y = kV k ∧ valV kvs k = some v ∧ Q v H2
theorem pe_dgetS (hu : X.A.units + 1 < cLine) (ho : PE X o td) (hi : PE X i ty) (hs : NoSl i) : PE X (.Subscript o i pos) (tDGetS td ty) := by
  intro pins s σ H Q I h
  refine subD_of PySem.F.slot_dict_getitem.lookup hs (thn (ho pins s σ H _ I h) fun u s1 ⟨x, H1, I1, rx, q1⟩ => thn (hi pins s1 σ H1 _ I1 q1) fun iv s2 ⟨y, H2, I2, ry, a, kvs, k, v, ex, g, ey, l, q2⟩ => ?_)
  subst ex ey
  obtain rfl : u = Value.ref a := rx
  exact ds_getItem hu I2 g l ry fun w' s3 I3 rw' => ⟨v, H2, I3, rw', q2⟩
end
/-! ### the data rules -/
section
variable {X : Cx} {o i e f value : Expr} {es : List Expr} {pos pos' apos cpos : Pos} {td ti tx tv : TD} {t : TAd}
def dNewDic (_ : DS) (M : MH) (Q : QD) : Prop := ∀ p, M p = none → Q (.m p) (updM M p (.dic []))
theorem pd_newDic : PD X (.Dict [] [] pos) dNewDic := pe_w pe_dnewK fun σ H Q ⟨τ, M, Qd, A, h, k⟩ p hp =>
  k (.ref p) _ (.m p) (updM M p (.dic [])) (Kp.new hp) rfl (A.mem.put (mo := .dic []) (Kp.new hp) ⟨[], upd_same, .nil⟩) (h p (A.mem.free hp))
def dNewDct (_ : DS) (M : MH) (Q : QD) : Prop := ∀ p, M p = none → Q (.m p) (updM M p (.dct []))
theorem pd_newDct : PD X (.Dict [] [] pos) dNewDct := pe_w pe_dnewT fun σ H Q ⟨τ, M, Qd, A, h, k⟩ p hp =>
  k (.ref p) _ (.m p) (updM M p (.dct [])) (Kp.new hp) rfl (A.mem.put (mo := .dct []) (Kp.new hp) ⟨[], upd_same, .nil⟩) (h p (A.mem.free hp))
/-- y in d -/
def dDIn (ti td : TD) (τ : DS) (M : MH) (Q : QD) : Prop := ti τ M fun y M1 => td τ M1 fun w M2 => ∃ o, DLook M2 w y o ∧ Q (.d (.bool o.isSome)) M2
def dDNotIn (ti td : TD) (τ : DS) (M : MH) (Q : QD) : Prop := ti τ M fun y M1 => td τ M1 fun w M2 => ∃ o, DLook M2 w y o ∧ Q (.d (.bool (!o.isSome))) M2
theorem imp_din {σ : St} {H : Hp} {Q : VK} (h : up X.K (dDIn ti td) σ H Q) : tDInS X.K (up X.K ti) (up X.K td) σ H Q := by
  obtain ⟨τ, M, Qd, A, h, k⟩ := h
  refine ⟨τ, M, _, A, h, fun y H1 wy M1 kp1 r1 m1 q1 => ⟨τ, M1, _, A.go kp1 m1, q1, fun x H2 w M2 kp2 r2 m2 ⟨o, g, q2⟩ => ?_⟩⟩
  obtain ⟨a, p, e, g', ro⟩ := g.sound r2 (r1.keep kp2) m2
  refine ⟨a, p, e, g', ?_⟩
  rw [← ro.isSome]
  exact k _ H2 (.d (.bool _)) M2 (kp1.trans kp2) (by simp [RepW, RepD]) m2 q2
theorem imp_dnotin {σ : St} {H : Hp} {Q : VK} (h : up X.K (dDNotIn ti td) σ H Q) : tDNotInS X.K (up X.K ti) (up X.K td) σ H Q := by
  obtain ⟨τ, M, Qd, A, h, k⟩ := h
  refine ⟨τ, M, _, A, h, fun y H1 wy M1 kp1 r1 m1 q1 => ⟨τ, M1, _, A.go kp1 m1, q1, fun x H2 w M2 kp2 r2 m2 ⟨o, g, q2⟩ => ?_⟩⟩
  obtain ⟨a, p, e, g', ro⟩ := g.sound r2 (r1.keep kp2) m2
  refine ⟨a, p, e, g', ?_⟩
  rw [← ro.isSome]
  exact k _ H2 (.d (.bool _)) M2 (kp1.trans kp2) (by simp [RepW, RepD]) m2 q2
theorem pd_din (hu : X.A.units + 1 < cLine) (hi : PD X i ti) (ho : PD X o td) (hm : behindInMarks .In o = false := by rfl) : PD X (.Compare i [.In] [o] pos) (dDIn ti td) := pe_w (pe_cmp (pc_dinS hu hi ho) hm) fun σ H Q h => imp_din h
theorem pd_dnotin (hu : X.A.units + 1 < cLine) (hi : PD X i ti) (ho : PD X o td) (hm : behindInMarks .NotIn o = false := by rfl) : PD X (.Compare i [.NotIn] [o] pos) (dDNotIn ti td) := pe_w (pe_cmp (pc_dnotinS hu hi ho) hm) fun σ H Q h => imp_dnotin h
theorem ptd_din (hu : X.A.units + 1 < cLine) (hi : PD X i ti) (ho : PD X o td) (hm : behindInMarks .In o = false := by rfl) : PTd X (.Compare i [.In] [o] pos) (dTest (dDIn ti td)) := pt_w (pt_cmp (pc_dinS hu hi ho) hm) fun σ H Q h => imp_test (fun σ H Q h => imp_din h) h
theorem ptd_dnotin (hu : X.A.units + 1 < cLine) (hi : PD X i ti) (ho : PD X o td) (hm : behindInMarks .NotIn o = false := by rfl) : PTd X (.Compare i [.NotIn] [o] pos) (dTest (dDNotIn ti td)) := pt_w (pt_cmp (pc_dnotinS hu hi ho) hm) fun σ H Q h => imp_test (fun σ H Q h => imp_dnotin h) h
/-- d[k] -/
def dDGet (td ti : TD) (τ : DS) (M : MH) (Q : QD) : Prop := td τ M fun w M1 => ti τ M1 fun y M2 => ∃ a kvs k v, w = .m a ∧ (M2 a = some (.dic kvs) ∨ M2 a = some (.fdic kvs)) ∧ y = kW k ∧ tget kvs k = some v ∧ Q v M2
theorem pd_dget (hu : X.A.units + 1 < cLine) (ho : PD X o td) (hi : PD X i ti) (hs : NoSl i := by exact fun _ _ => rfl) : PD X (.Subscript o i pos) (dDGet td ti) := pe_w (pe_dgetS hu ho hi hs) fun σ H Q h => by
  obtain ⟨τ, M, Qd, A, h, k⟩ := h
  refine ⟨τ, M, _, A, h, fun x H1 w M1 kp1 r1 m1 q1 => ⟨τ, M1, _, A.go kp1 m1, q1, fun y H2 wy M2 kp2 r2 m2 ⟨a, kvs, key, v, ew, hm, ey, hv, q2⟩ => ?_⟩⟩
  subst ew ey
  obtain ⟨l, e, pr⟩ : ∃ l, Rd2 H2 a (.dK l) ∧ Paired (fun (p : Key × W) (q : Key × V) => p.1 = q.1 ∧ RepW X.K H2 p.2 q.2) kvs l := by
    rcases hm with hm | hm
    · obtain ⟨l, e, pr⟩ := m2 _ _ hm
      exact ⟨l, .inl (.inl e), pr⟩
    · obtain ⟨ob, l, e, pr⟩ := m2 _ _ hm
      exact ⟨l, .inr ⟨ob, e⟩, pr⟩
  have g := tb_get key pr
  rw [hv] at g
  obtain ⟨b, eb, rb⟩ := OR.some_of g
  refine ⟨a, l, key, b, r1, e, kW_rep r2, eb, ?_⟩
  exact k _ H2 v M2 (kp1.trans kp2) rb m2 q2
/-- d.get(k), d.get(k, x) -/
def dGet1 (td ti : TD) (τ : DS) (M : MH) (Q : QD) : Prop := td τ M fun w M1 => DIs M1 w ∧ ti τ M1 fun y M2 => ∃ o, DLook M2 w y o ∧ Q (o.getD (.d .none)) M2
def dGet2 (td ti tx : TD) (τ : DS) (M : MH) (Q : QD) : Prop := td τ M fun w M1 => DIs M1 w ∧ ti τ M1 fun y M2 => tx τ M2 fun z M3 => ∃ o, DLook M3 w y o ∧ Q (o.getD z) M3
theorem OR.getD {K : PySem.W.Frag} {H : Hp} {o : Option W} {p : Option V} {z : W} {v : V} (h : OR (RepW K H) o p) (r : RepW K H z v) : RepW K H (o.getD z) (p.getD v) := by
  cases o with
  | none => rw [OR.none_of h]; exact r
  | some a => obtain ⟨b, e, q⟩ := OR.some_of h; rw [e]; exact q
theorem m1_get (hb : attributeBase o "get" X.env (eval o X.env) = eval o X.env := by rfl)
    (hf : ((backTo cpos (starEach [e] X.env)).all (fun x => !x.1) && (backToKw cpos (keywordEach [] X.env)).all (fun x => x.1.isSome) && decide (([e] : List Expr).length + ([] : List Keyword).length + (if ([] : List Keyword).isEmpty then 0 else 1) < 30)) = true := by rfl)
    (hl : (apos.endLine == cpos.line) = true := by rfl) (ht : backTo cpos (starEach [e] X.env) = [(false, eval e X.env)] := by rfl) : M1 X o "get" apos e cpos := ⟨hb, hf, hl, ht⟩
theorem pd_get1 (hu : X.A.units + 1 < cLine) (ho : PD X o td) (he : PD X e ti) (m : M1 X o "get" apos e cpos := by exact ⟨rfl, rfl, rfl, rfl⟩) : PD X (.Call (.Attribute o "get" apos) [e] [] cpos) (dGet1 td ti) := pe_w (pe_dget1S hu ho he m) fun σ H Q h => by
  obtain ⟨τ, M, Qd, A, h, k⟩ := h
  refine ⟨τ, M, _, A, h, fun x H1 w M1 kp1 r1 m1 ⟨di, q1⟩ => ?_⟩
  obtain ⟨a, ea, isd⟩ := di.sound r1 m1
  refine ⟨a, ea, isd, τ, M1, _, A.go kp1 m1, q1, fun y H2 wy M2 kp2 r2 m2 ⟨o, g, q2⟩ => ?_⟩
  obtain ⟨a', p, e', g', ro⟩ := g.sound (r1.keep kp2) r2 m2
  rw [ea] at e'
  cases e'
  exact ⟨p, g', k _ H2 _ M2 (kp1.trans kp2) (ro.getD (v := .non) (by simp [RepW, RepD])) m2 q2⟩
theorem pd_get2 (hu : X.A.units + 1 < cLine) (ho : PD X o td) (he : PD X e ti) (hf : PD X f tx) (m : M2 X o "get" apos e f cpos := by exact ⟨rfl, rfl, rfl, rfl⟩) : PD X (.Call (.Attribute o "get" apos) [e, f] [] cpos) (dGet2 td ti tx) := pe_w (pe_dget2S hu ho he hf m) fun σ H Q h => by
  obtain ⟨τ, M, Qd, A, h, k⟩ := h
  refine ⟨τ, M, _, A, h, fun x H1 w M1 kp1 r1 m1 ⟨di, q1⟩ => ?_⟩
  obtain ⟨a, ea, isd⟩ := di.sound r1 m1
  refine ⟨a, ea, isd, τ, M1, _, A.go kp1 m1, q1, fun y H2 wy M2 kp2 r2 m2 q2 => ⟨τ, M2, _, A.go (kp1.trans kp2) m2, q2, fun z H3 wz M3 kp3 r3 m3 ⟨o, g, q3⟩ => ?_⟩⟩
  obtain ⟨a', p, e', g', ro⟩ := g.sound (r1.keep (kp2.trans kp3)) (r2.keep kp3) m3
  rw [ea] at e'
  cases e'
  exact ⟨p, g', k _ H3 _ M3 ((kp1.trans kp2).trans kp3) (ro.getD r3) m3 q3⟩
/-- d.setdefault(k, x) -/
def dSetDef (td ti tx : TD) (τ : DS) (M : MH) (Q : QD) : Prop := td τ M fun w M1 => DIs M1 w ∧ ti τ M1 fun y M2 => tx τ M2 fun z M3 => ∃ a kvs k, w = .m a ∧ M3 a = some (.dic kvs) ∧ y = kW k ∧ kvs.length < sizeLine ∧
  (∀ v, tget kvs k = some v → Q v M3) ∧ (tget kvs k = none → Q z (updM M3 a (.dic (tput kvs k z))))
theorem pd_setdef (ho : PD X o td) (he : PD X e ti) (hf : PD X f tx) (m : M2 X o "setdefault" apos e f cpos := by exact ⟨rfl, rfl, rfl, rfl⟩) : PD X (.Call (.Attribute o "setdefault" apos) [e, f] [] cpos) (dSetDef td ti tx) := pe_w (pe_dsetdef ho he hf m) fun σ H Q h => by
  obtain ⟨τ, M, Qd, A, h, k⟩ := h
  refine ⟨τ, M, _, A, h, fun x H1 w M1 kp1 r1 m1 ⟨di, q1⟩ => ?_⟩
  obtain ⟨a, ea, isd⟩ := di.sound r1 m1
  refine ⟨a, ea, isd, τ, M1, _, A.go kp1 m1, q1, fun y H2 wy M2 kp2 r2 m2 q2 => ⟨τ, M2, _, A.go (kp1.trans kp2) m2, q2, fun z H3 wz M3 kp3 r3 m3 ⟨a', kvs, key, ew, hm, ey, hl, qs, qn⟩ => ?_⟩⟩
  subst ew ey
  have e2 : V.ref a = V.ref a' := ea.symm.trans r1
  cases e2
  obtain ⟨l, e, pr⟩ := m3 _ _ hm
  have g := tb_get key pr
  have kk := (kp1.trans kp2).trans kp3
  refine ⟨l, key, e, kW_rep r2, by rw [← tb_len pr]; exact hl, fun v ev => ?_, fun en => ?_⟩
  · cases q : tget kvs key with
    | none => rw [q, ev] at g; exact g.elim
    | some v' =>
      rw [q, ev] at g
      exact k _ H3 v' M3 kk g m3 (qs v' q)
  · cases q : tget kvs key with
    | some v' => rw [q, en] at g; exact g.elim
    | none =>
      have kp4 : Kp H3 (upd H3 a (.dK (putK l key z))) := Kp.set e (fun _ z => nomatch z) (fun _ _ z => nomatch z)
      refine k _ _ wz (updM M3 a (.dic (tput kvs key wz))) (kk.trans kp4) (r3.keep kp4) (m3.put (mo := .dic (tput kvs key wz)) kp4 ⟨_, upd_same, ?_⟩) (qn q)
      exact Paired.mapP (tb_put key r3 pr) fun p q z => ⟨z.1, z.2.keep kp4⟩
/-- d[k] = v; d[a, b] = v -/
def dDPut (td ti tv : TD) (D : Ed) (τ : DS) (M : MH) : Prop := tv τ M fun v M1 => td τ M1 fun w M2 => ti τ M2 fun y M3 => ∃ a kvs k, w = .m a ∧ M3 a = some (.dic kvs) ∧ y = kW k ∧ kvs.length < sizeLine ∧ D.nx τ (updM M3 a (.dic (tput kvs k v)))
theorem psd_dput (hu : X.A.units + 1 < cLine) (ho : PD X o td) (hi : PD X i ti) (hv : PD X value tv) (hs : swapsWith value (some (.Subscript o i pos')) pos.line X.env = pure false := by rfl) :
    PSd X (.Assign [.Subscript o i pos'] value pos) (dDPut td ti tv) := ps_w (ps_dput hu ho hi hv hs) fun D σ H h => by
  obtain ⟨τ, M, Dd, A, h, k1, _⟩ := h
  refine ⟨τ, M, _, A, h, fun v H1 wv M1 kp1 r1 m1 q1 => ⟨τ, M1, _, A.go kp1 m1, q1, fun x H2 w M2 kp2 r2 m2 q2 => ⟨τ, M2, _, A.go (kp1.trans kp2) m2, q2, fun y H3 wy M3 kp3 r3 m3 ⟨a, kvs, key, ew, hm, ey, hl, q3⟩ => ?_⟩⟩⟩
  subst ew ey
  obtain ⟨l, e, pr⟩ := m3 _ _ hm
  have kp4 : Kp H3 (upd H3 a (.dK (putK l key v))) := Kp.set e (fun _ z => nomatch z) (fun _ _ z => nomatch z)
  refine ⟨a, _, r2, .inl ⟨l, key, e, kW_rep r3, by rw [← tb_len pr]; exact hl, rfl⟩, ?_⟩
  have rv : RepW X.K H3 wv v := (r1.keep kp2).keep kp3
  refine k1 _ _ _ _ (((kp1.trans kp2).trans kp3).trans kp4) (A.go (((kp1.trans kp2).trans kp3).trans kp4) (m3.put (mo := .dic (tput kvs key wv)) kp4 ⟨_, upd_same, ?_⟩)) q3
  exact Paired.mapP (tb_put key rv pr) fun p q z => ⟨z.1, z.2.keep kp4⟩
def dDPutT (td : TD) (t : TAd) (tv : TD) (D : Ed) (τ : DS) (M : MH) : Prop := tv τ M fun v M1 => td τ M1 fun w M2 => t τ M2 fun ws M3 => ∃ a kvs ks, w = .m a ∧ M3 a = some (.dct kvs) ∧ ws = ks.map kW ∧ kvs.length < sizeLine ∧ ks.length ≤ sizeLine ∧ D.nx τ (updM M3 a (.dct (tput kvs ks v)))
theorem psd_dputT {x1 : Nat} {p2 : Pos} (hu : X.A.units + 1 < cLine) (ho : PD X o td) (hi : PAd X es t) (hv : PD X value tv) (hs : swapsWith value (some (.Subscript o (.Tuple es x1 p2) pos')) pos.line X.env = pure false := by rfl) :
    PSd X (.Assign [.Subscript o (.Tuple es x1 p2) pos'] value pos) (dDPutT td t tv) := ps_w (ps_dput hu ho (pe_tup hi) hv hs) fun D σ H h => by
  obtain ⟨τ, M, Dd, A, h, k1, _⟩ := h
  refine ⟨τ, M, _, A, h, fun v H1 wv M1 kp1 r1 m1 q1 => ⟨τ, M1, _, A.go kp1 m1, q1, fun x H2 w M2 kp2 r2 m2 q2 => ⟨τ, M2, _, A.go (kp1.trans kp2) m2, q2, fun vs H3 ws M3 kp3 r3 m3 ⟨a, kvs, ks, ew, hm, ey, hl, hk, q3⟩ => ?_⟩⟩⟩
  subst ew ey
  have evs := keysW r3
  subst evs
  refine ⟨by simpa using hk, fun p hp => ?_⟩
  have kp5 : Kp H3 (upd H3 p (.tup (ks.map kV))) := Kp.new hp
  have m5 := m3.new (o := .tup (ks.map kV)) hp
  obtain ⟨l, e, pr⟩ := m5 _ _ hm
  have kp4 : Kp (upd H3 p (.tup (ks.map kV))) (upd (upd H3 p (.tup (ks.map kV))) a (.dT (putK l ks v))) := Kp.set e (fun _ z => nomatch z) (fun _ _ z => nomatch z)
  refine ⟨a, _, r2, .inr ⟨l, ks, p, e, rfl, upd_same, by rw [← tb_len pr]; exact hl, rfl⟩, ?_⟩
  have rv : RepW X.K (upd H3 p (.tup (ks.map kV))) wv v := ((r1.keep kp2).keep kp3).keep kp5
  have kk := (((kp1.trans kp2).trans kp3).trans kp5).trans kp4
  refine k1 _ _ _ _ kk (A.go kk (m5.put (mo := .dct (tput kvs ks wv)) kp4 ⟨_, upd_same, ?_⟩)) q3
  exact Paired.mapP (tb_put ks rv pr) fun p q z => ⟨z.1, z.2.keep kp4⟩
end
end D

set_option Elab.async false
set_option linter.all false
set_option maxRecDepth 100000
set_option maxHeartbeats 4000000
/-! INSTANCES of own classes; lists of the store. -/
namespace D
open PySem PySem.Spec PyProof.Rows L2
def putW (f : Str) (v : W) : List (Str × W) → List (Str × W)
  | [] => [(f, v)]
  | (g, x) :: r => if g = f then (g, v) :: r else (g, x) :: putW f v r
abbrev FRep (K : PySem.W.Frag) (H : Hp) : List (Str × W) → List (Str × V) → Prop := Paired (fun (p : Str × W) (q : Str × V) => p.1 = q.1 ∧ RepW K H p.2 q.2)
theorem fr_lookup {K : PySem.W.Frag} {H : Hp} (f : Str) : ∀ {fs : List (Str × W)} {l : List (Str × V)}, FRep K H fs l → OR (RepW K H) (fs.lookup f) (l.lookup f)
  | _, _, .nil => True.intro
  | _, _, .cons (a := p) (b := q) (l₁ := t1) (l₂ := t2) h t => by
    obtain ⟨pk, pv⟩ := p
    obtain ⟨qk, qv⟩ := q
    obtain ⟨h1, h2⟩ := h
    have h1' : pk = qk := h1
    subst h1'
    rw [List.lookup_cons, List.lookup_cons]
    cases e : (f == pk) with
    | true => exact h2
    | false => exact fr_lookup f t
theorem fr_put {K : PySem.W.Frag} {H : Hp} (f : Str) {w : W} {v : V} (r : RepW K H w v) : ∀ {fs : List (Str × W)} {l : List (Str × V)}, FRep K H fs l → FRep K H (putW f w fs) (putF f v l)
  | _, _, .nil => .cons ⟨rfl, r⟩ .nil
  | _, _, .cons (a := p) (b := q) (l₁ := t1) (l₂ := t2) h t => by
    obtain ⟨pk, pv⟩ := p
    obtain ⟨qk, qv⟩ := q
    obtain ⟨h1, h2⟩ := h
    have h1' : pk = qk := h1
    subst h1'
    show FRep K H (if pk = f then (pk, w) :: t1 else (pk, pv) :: putW f w t1) (if pk = f then (pk, v) :: t2 else (pk, qv) :: putF f v t2)
    by_cases e : pk = f
    · rw [if_pos e, if_pos e]
      exact .cons ⟨rfl, r⟩ t
    · rw [if_neg e, if_neg e]
      exact .cons ⟨rfl, h2⟩ (fr_put f r t)
theorem fr_len {K : PySem.W.Frag} {H : Hp} : ∀ {fs : List (Str × W)} {l : List (Str × V)}, FRep K H fs l → fs.length = l.length
  | _, _, .nil => rfl
  | _, _, .cons _ t => by simp [fr_len t]
theorem FRep.keep {K : PySem.W.Frag} {H H' : Hp} (kp : Kp H H') {fs : List (Str × W)} {l : List (Str × V)} (h : FRep K H fs l) : FRep K H' fs l := Paired.mapP h fun p q z => ⟨z.1, z.2.keep kp⟩
section
variable {X : Cx} {C f : Addr} {o e value : Expr} {es : List Expr} {fn m x : Str} {pos pos' apos p : Pos} {td tv te : TD} {t : TAd} {k : Nat} {fd : FuncData} {ps : List Str} {sp : SpD}
/-- e.f -/
def dFld (C : Addr) (td : TD) (fn : Str) (τ : DS) (M : MH) (Q : QD) : Prop := td τ M fun w M1 => ∃ a fs v, w = .m a ∧ M1 a = some (.ins C fs) ∧ fs.lookup fn = some v ∧ Q v M1
theorem pd_fld (c : Cls X.K C) (n : NoAttr X.K C fn) (he : PD X e td) (hb : attributeBase e fn X.env (eval e X.env) = eval e X.env := by rfl) : PD X (.Attribute e fn pos) (dFld C td fn) := pe_w (pe_fld he hb) fun σ H Q h => by
  obtain ⟨τ, M, Qd, A, h, k⟩ := h
  refine ⟨τ, M, _, A, h, fun x H1 w M1 kp1 r1 m1 ⟨a, fs, v, ew, hm, hl, q⟩ => ?_⟩
  subst ew
  obtain ⟨dx, l, e, pr⟩ := m1 _ _ hm
  have g := fr_lookup fn pr
  rw [hl] at g
  obtain ⟨b, eb, rb⟩ := OR.some_of g
  exact ⟨a, C, dx, l, b, r1, e, c, n, eb, k _ H1 v M1 kp1 rb m1 q⟩
/-- e.f = v -/
def dFldPut (C : Addr) (td tv : TD) (fn : Str) (D : Ed) (τ : DS) (M : MH) : Prop := tv τ M fun v M1 => td τ M1 fun w M2 => ∃ a fs, w = .m a ∧ M2 a = some (.ins C fs) ∧ fs.length < 1000 ∧ D.nx τ (updM M2 a (.ins C (putW fn v fs)))
theorem psd_fld (c : Cls X.K C) (n : NoAttr X.K C fn) (ha : PD X o td) (hv : PD X value tv) (hs : swapsWith value (some (.Attribute o fn pos')) pos.line X.env = pure false := by rfl) : PSd X (.Assign [.Attribute o fn pos'] value pos) (dFldPut C td tv fn) := ps_w (ps_fld ha hv hs) fun D σ H h => by
  obtain ⟨τ, M, Dd, A, h, k1, _⟩ := h
  refine ⟨τ, M, _, A, h, fun v H1 wv M1 kp1 r1 m1 q1 => ⟨τ, M1, _, A.go kp1 m1, q1, fun x H2 w M2 kp2 r2 m2 ⟨a, fs, ew, hm, hl, q2⟩ => ?_⟩⟩
  subst ew
  obtain ⟨dx, l, e, pr⟩ := m2 _ _ hm
  have kp4 : Kp H2 (upd H2 a (.ins C dx (putF fn v l))) := Kp.set e (fun _ z => nomatch z) (fun _ _ z => nomatch z)
  refine ⟨a, C, dx, l, r2, e, c, n, by rw [← fr_len pr]; exact hl, ?_⟩
  refine k1 _ _ _ _ ((kp1.trans kp2).trans kp4) (A.go ((kp1.trans kp2).trans kp4) (m2.put (mo := .ins C (putW fn wv fs)) kp4 ⟨dx, _, upd_same, ?_⟩)) q2
  exact FRep.keep kp4 (fr_put fn (r1.keep kp2) pr)
/-- o.m(..) -/
def dMeth (C : Addr) (m : Str) (sp : SpD) (td : TD) (t : TAd) (τ : DS) (M : MH) (Q : QD) : Prop := td τ M fun w M1 => ∃ a fs, w = .m a ∧ M1 a = some (.ins C fs) ∧ fs.lookup m = none ∧ t τ M1 fun ws M2 => sp (w :: ws) M2 Q
theorem imp_meth {σ : St} {H : Hp} {Q : VK} (h : up X.K (dMeth C m sp td t) σ H Q) : tMeth C m (upSp X.K sp) [] E0 (up X.K td) (upA X.K t) σ H Q := by
  obtain ⟨τ, M, Qd, A, h, k⟩ := h
  refine ⟨τ, M, _, A, h, fun x H1 w M1 kp1 r1 m1 ⟨a, fs, ew, hm, hl, q1⟩ => ?_⟩
  subst ew
  obtain ⟨dx, l, e, pr⟩ := m1 _ _ hm
  have g := fr_lookup m pr
  rw [hl] at g
  refine ⟨a, dx, l, r1, e, OR.none_of g, τ, M1, _, A.go kp1 m1, q1, fun vs H2 ws M2 kp2 r2 m2 q2 => ?_⟩
  exact ⟨.m a :: ws, M2, Qd, by rw [List.append_nil]; exact .cons r1 r2, m2, q2, kgo (kgo k kp1) kp2⟩
theorem pd_meth {pl : Sem Bool} (he : PD X o td) (c : Cls X.K C) (hm : Meth X.K C m f) (F : FnOk X.prog X.w X.K X.mg X.base CX0 k f fd ps (upSp X.K sp)) (hr : Room k X.A) (hb : Binds X.K fd ps []) (ha : PAd X (e :: es) t)
    (ht : eval (.Call (.Attribute o m apos) (e :: es) [] pos) X.env = (do
      let ov ← eval o X.env
      standAt apos.atName
      let (f, first) ← holding [ov] (getMethod ov m pl)
      callWith pos f first (backTo pos (starEach (e :: es) X.env)) (backToKw pos (keywordEach [] X.env))) := by rfl)
    (h1 : isSt e = false := by rfl) (h2 : (es.all fun e => !isSt e) = true := by rfl) : PD X (.Call (.Attribute o m apos) (e :: es) [] pos) (dMeth C m sp td t) :=
  pe_w (pe_meth (E := E0) (dvs := []) he c hm F hr hb .nil pass0 ha (star_ok e es X.env h1) (plain_ok pos X.env es h2) ht) fun σ H Q h => imp_meth h
theorem pd_meth0 {pl : Sem Bool} (he : PD X o td) (c : Cls X.K C) (hm : Meth X.K C m f) (F : FnOk X.prog X.w X.K X.mg X.base CX0 k f fd ps (upSp X.K sp)) (hr : Room k X.A) (hb : Binds X.K fd ps [])
    (ht : eval (.Call (.Attribute o m apos) [] [] pos) X.env = (do
      let ov ← eval o X.env
      standAt apos.atName
      let (f, first) ← holding [ov] (getMethod ov m pl)
      callWith pos f first (backTo pos (starEach [] X.env)) (backToKw pos (keywordEach [] X.env))) := by rfl) : PD X (.Call (.Attribute o m apos) [] [] pos) (dMeth C m sp td dNil) :=
  pe_w (pe_meth0 (E := E0) (dvs := []) he c hm F hr hb .nil pass0 ht) fun σ H Q h => by
    obtain ⟨τ, M, Qd, A, h, k⟩ := h
    refine ⟨τ, M, _, A, h, fun x H1 w M1 kp1 r1 m1 ⟨a, fs, ew, hm, hl, q1⟩ => ?_⟩
    subst ew
    obtain ⟨dx, l, e, pr⟩ := m1 _ _ hm
    have g := fr_lookup m pr
    rw [hl] at g
    exact ⟨a, dx, l, r1, e, OR.none_of g, .m a :: [], M1, Qd, .cons r1 .nil, m1, q1, kgo k kp1⟩
/-- C(..) -/
def dMake (C : Addr) (sp : SpD) (t : TAd) (τ : DS) (M : MH) (Q : QD) : Prop := t τ M fun ws M1 => ∀ a, M1 a = none → sp (.m a :: ws) (updM M1 a (.ins C [])) (fun v M2 => v = .d .none ∧ Q (.m a) M2)
theorem made_abs {H1 : Hp} {M1 : MH} {a dx : Addr} (m1 : MAbs X.K H1 M1) (ha : H1 a = none) (hd : H1 dx = none) (hn : dx ≠ a) : Kp H1 (upd (upd H1 dx (.own a)) a (.ins C dx [])) ∧ MAbs X.K (upd (upd H1 dx (.own a)) a (.ins C dx [])) (updM M1 a (.ins C [])) := by
  have k1 : Kp H1 (upd H1 dx (.own a)) := Kp.new hd
  have ha2 : (upd H1 dx (.own a)) a = none := by rw [upd_ne (Ne.symm hn)]; exact ha
  have k2 : Kp (upd H1 dx (.own a)) (upd (upd H1 dx (.own a)) a (.ins C dx [])) := Kp.new ha2
  exact ⟨k1.trans k2, (m1.new hd).put (mo := .ins C []) k2 ⟨dx, [], upd_same, .nil⟩⟩
theorem pd_make (Mk' : Mk X.K C f) (F : FnOk X.prog X.w X.K X.mg X.base CX0 k f fd ps (upSp X.K sp)) (hr : Room (k + 1) X.A) (hg : Gl X x) (hm : X.mg x = some (.ref C)) (hb : Binds X.K fd ps []) (ha : PAd X (e :: es) t) (hdb : (x == ("__debug__" : Str)) = false := by decide)
    (h1 : isSt e = false := by rfl) (h2 : (es.all fun e => !isSt e) = true := by rfl) : PD X (.Call (.Name x p) (e :: es) [] pos) (dMake C sp t) :=
  pe_w (pe_make (E := E0) (dvs := []) Mk' F hr hg hm hb .nil pass0 ha hdb (star_ok e es X.env h1) (plain_ok pos X.env es h2)) fun σ H Q h => by
    obtain ⟨τ, M, Qd, A, h, k⟩ := h
    refine ⟨τ, M, _, A, h, fun vs H1 ws M1 kp1 r1 m1 q1 a dx ha hd hn => ?_⟩
    obtain ⟨kp2, m2⟩ := made_abs (X := X) (C := C) m1 ha hd hn
    exact ⟨.m a :: ws, _, _, by rw [List.append_nil]; exact .cons rfl (r1.keep kp2), m2, q1 a (m1.free ha), fun v H' w M' kp3 r3 m3 ⟨e3, q3⟩ => by
      subst e3
      simp only [RepW, RepD] at r3
      exact ⟨r3, k _ H' (.m a) M' ((kp1.trans kp2).trans kp3) rfl m3 q3⟩⟩
theorem pd_make0 (Mk' : Mk X.K C f) (F : FnOk X.prog X.w X.K X.mg X.base CX0 k f fd ps (upSp X.K sp)) (hr : Room (k + 1) X.A) (hg : Gl X x) (hm : X.mg x = some (.ref C)) (hb : Binds X.K fd ps []) (hdb : (x == ("__debug__" : Str)) = false := by decide) :
    PD X (.Call (.Name x p) [] [] pos) (dMake C sp dNil) :=
  pe_w (pe_make0 (E := E0) (dvs := []) Mk' F hr hg hm hb .nil pass0 hdb) fun σ H Q h => by
    obtain ⟨τ, M, Qd, A, h, k⟩ := h
    intro a dx ha hd hn
    obtain ⟨kp2, m2⟩ := made_abs (X := X) (C := C) A.mem ha hd hn
    exact ⟨.m a :: [], _, _, .cons rfl .nil, m2, h a (A.mem.free ha), fun v H' w M' kp3 r3 m3 ⟨e3, q3⟩ => by
      subst e3
      simp only [RepW, RepD] at r3
      exact ⟨r3, k _ H' (.m a) M' (kp2.trans kp3) rfl m3 q3⟩⟩
end
/-! ### lists of the store -/
def delM (M : MH) (a : Addr) : MH := fun b => if b = a then none else M b
theorem delM_ne {M : MH} {a b : Addr} (h : b ≠ a) : delM M a b = M b := if_neg h
theorem MAbs.del {K : PySem.W.Frag} {H : Hp} {M : MH} {a : Addr} {o : HO} (m : MAbs K H M) (kp : Kp H (upd H a o)) : MAbs K (upd H a o) (delM M a) := fun b mo hm => by
  by_cases e : b = a
  · subst e; simp [delM] at hm
  · rw [delM_ne e] at hm
    exact (m b mo hm).keep kp fun u z => by rw [upd_ne e]; exact z
def one1 (R : W → MH → Prop) (ws : List W) (M : MH) : Prop := match ws with
  | [y] => R y M
  | _ => False
theorem one1_of {R : W → MH → Prop} {ws : List W} {M : MH} (h : one1 R ws M) : ∃ y, ws = [y] ∧ R y M := by
  match ws, h with
  | [y], h => exact ⟨y, rfl, h⟩
section
variable {X : Cx} {o e : Expr} {pos apos cpos : Pos} {td te : TD}
/-- a list that changes no more -/
def dSeal (td : TD) (τ : DS) (M : MH) (Q : QD) : Prop := td τ M fun w M1 => ∃ a ds, w = .m a ∧ M1 a = some (.lst (ds.map W.d)) ∧ Q (.d (.list ds)) (delM M1 a)
theorem pd_seal (h : PD X e td) : PD X e (dSeal td) := pe_w (pe_frz h) fun σ H Q h => by
  obtain ⟨τ, M, Qd, A, h, k⟩ := h
  refine ⟨τ, M, _, A, h, fun x H1 w M1 kp1 r1 m1 ⟨a, ds, ew, hm, q⟩ => ?_⟩
  subst ew
  obtain ⟨vs, e, ra⟩ := m1 _ _ hm
  refine ⟨a, _, r1, e, trivial, fun ob => ?_⟩
  have kp2 : Kp H1 (upd H1 a (.frz ob (.lst vs))) := Kp.set e (fun _ z => nomatch z) (fun _ _ z => nomatch z)
  refine k _ _ (.d (.list ds)) (delM M1 a) (kp1.trans kp2) ?_ (m1.del kp2) q
  simp only [RepW, RepD]
  exact ⟨a, vs, r1, .inl ⟨ob, upd_same⟩, ra.data.keep kp2⟩
/-- xs.append(e) -/
def dAppend (td te : TD) (τ : DS) (M : MH) (Q : QD) : Prop := td τ M fun w M1 => ∃ a ws, w = .m a ∧ M1 a = some (.lst ws) ∧ te τ M1 fun y M2 => ∃ ws', M2 a = some (.lst ws') ∧ ws'.length < sizeLine ∧ Q (.d .none) (updM M2 a (.lst (ws' ++ [y])))
theorem pd_append (ho : PD X o td) (he : PD X e te)
    (hbase : attributeBase o "append" X.env (eval o X.env) = eval o X.env := by rfl)
    (hfew : ((backTo cpos (starEach [e] X.env)).all (fun x => !x.1) && (backToKw cpos (keywordEach [] X.env)).all (fun x => x.1.isSome)
      && decide (([e] : List Expr).length + ([] : List Keyword).length + (if ([] : List Keyword).isEmpty then 0 else 1) < 30)) = true := by rfl)
    (hline : (apos.endLine == cpos.line) = true := by rfl) (hs : isSt e = false := by rfl) : PD X (.Call (.Attribute o "append" apos) [e] [] cpos) (dAppend td te) :=
  pe_w (pe_bm PySem.F.plainAttrs_list PySem.F.slot_list_append PySem.F.type_list_append mt_append ho (pac he pad_nil hs) hbase hfew hline (star_ok e [] X.env hs) rfl) fun σ H Q h => by
    obtain ⟨τ, M, Qd, A, h, k⟩ := h
    refine ⟨τ, M, _, A, h, fun x H1 w M1 kp1 r1 m1 ⟨a, ws, ew, hm, q1⟩ => ?_⟩
    subst ew
    obtain ⟨vs, ea, ra⟩ := m1 _ _ hm
    have r1' : x = .ref a := r1
    subst r1'
    refine ⟨.inl ⟨rfl, vs, .inl (.inl ea)⟩, τ, M1, one1 (fun y M2 => ∃ ws', M2 a = some (.lst ws') ∧ ws'.length < sizeLine ∧ Qd (.d .none) (updM M2 a (.lst (ws' ++ [y])))), A.go kp1 m1, q1, fun ys H2 wys M2 kp2 r2 m2 q2 => ?_⟩
    obtain ⟨y, ey, ws', hm2, hl, q4⟩ := one1_of q2
    subst ey
    obtain ⟨v, ev, rv⟩ := repWs1 r2
    subst ev
    obtain ⟨vs2, ea2, ra2⟩ := m2 _ _ hm2
    have kp4 : Kp H2 (upd H2 a (.lst (vs2 ++ [v]))) := Kp.set ea2 (fun _ z => nomatch z) (fun _ _ z => nomatch z)
    refine ⟨a, vs2, v, rfl, rfl, ea2, by rw [← ra2.length]; exact hl, ?_⟩
    exact k _ _ (.d .none) _ ((kp1.trans kp2).trans kp4) (by simp [RepW, RepD]) (m2.put (mo := .lst (ws' ++ [y])) kp4 ⟨_, upd_same, (RepWs.append ra2 (.cons rv .nil)).keep kp4⟩) q4
/-- xs.reverse() -/
def dReverse (td : TD) (τ : DS) (M : MH) (Q : QD) : Prop := td τ M fun w M1 => ∃ a ws, w = .m a ∧ M1 a = some (.lst ws) ∧ Q (.d .none) (updM M1 a (.lst ws.reverse))
theorem RepWs.reverse {K : PySem.W.Frag} {H : Hp} : ∀ {ws : List W} {vs : List V}, RepWs K H ws vs → RepWs K H ws.reverse vs.reverse
  | _, _, .nil => .nil
  | _, _, .cons h t => by
    simp only [List.reverse_cons]
    exact RepWs.append (RepWs.reverse t) (.cons h .nil)
theorem pd_reverse (ho : PD X o td) (hbase : attributeBase o "reverse" X.env (eval o X.env) = eval o X.env := by rfl) (hline : (apos.endLine == cpos.line) = true := by rfl) : PD X (.Call (.Attribute o "reverse" apos) [] [] cpos) (dReverse td) :=
  pe_w (pe_bm0 PySem.F.plainAttrs_list PySem.F.slot_list_reverse PySem.F.type_list_reverse mt_reverse ho hbase hline) fun σ H Q h => by
    obtain ⟨τ, M, Qd, A, h, k⟩ := h
    refine ⟨τ, M, _, A, h, fun x H1 w M1 kp1 r1 m1 ⟨a, ws, ew, hm, q1⟩ => ?_⟩
    subst ew
    obtain ⟨vs, ea, ra⟩ := m1 _ _ hm
    have r1' : x = .ref a := r1
    subst r1'
    have kp4 : Kp H1 (upd H1 a (.lst vs.reverse)) := Kp.set ea (fun _ z => nomatch z) (fun _ _ z => nomatch z)
    refine ⟨.inl ⟨rfl, vs, .inl (.inl ea)⟩, a, vs, rfl, rfl, ea, ?_⟩
    exact k _ _ (.d .none) _ (kp1.trans kp4) (by simp [RepW, RepD]) (m1.put (mo := .lst ws.reverse) kp4 ⟨_, upd_same, (RepWs.reverse ra).keep kp4⟩) q1
end
end D

set_option Elab.async false
set_option linter.all false
set_option maxRecDepth 100000
set_option maxHeartbeats 4000000
/-! LISTS OF THE STORE AS DATA: ==, !=, repr, list(..), tuple(..), in, truth; max; targets; displays that may change. -/
namespace D
open PySem PySem.Spec PyProof.Rows L2
/-- a datum, or a list of the store that has just these items -/
def RepT (K : PySem.W.Frag) (H : Hp) (d : PyData) (x : V) : Prop := RepD K H d x ∨ ∃ a vs ds, d = .list ds ∧ x = .ref a ∧ H a = some (.lst vs) ∧ RepA K H ds vs
inductive DatW (M : MH) : W → PyData → Prop
  | d {x : PyData} : DatW M (.d x) x
  | l {a : Addr} {ds : List PyData} (h : M a = some (.lst (ds.map W.d))) : DatW M (.m a) (.list ds)
theorem DatW.sound {K : PySem.W.Frag} {H : Hp} {M : MH} {w : W} {d : PyData} {x : V} (g : DatW M w d) (r : RepW K H w x) (m : MAbs K H M) : RepT K H d x := by
  cases g with
  | d => exact .inl r
  | l h =>
    obtain ⟨vs, e, ra⟩ := m _ _ h
    exact .inr ⟨_, vs, _, rfl, r, e, ra.data⟩
section
variable {X : Cx} {pins : List (Addr × Obj)} {σ : St} {H : Hp} {s : Shared}
theorem thaw (I : Inv X pins σ H s) {d : PyData} {x : V} (h : RepT X.K H d x) : ∃ H', Inv X pins σ H' s ∧ RepD X.K H' d x := by
  rcases h with h | ⟨a, vs, ds, rfl, rfl, e, ra⟩
  · exact ⟨H, I, h⟩
  · obtain ⟨o, I2⟩ := I.freeze e trivial
    have kp : Kp H (upd H a (.frz o (.lst vs))) := Kp.set e (fun _ z => nomatch z) (fun _ _ z => nomatch z)
    refine ⟨_, I2, ?_⟩
    simp only [RepD]
    exact ⟨a, vs, rfl, .inl ⟨o, upd_same⟩, ra.keep kp⟩
theorem readsT_of (I : Inv X pins σ H s) (d : PyData) {x : V} {u : Value} (h : RepT X.K H d x) (r : RelV x u) (hd : d.hasDict = false) : ∃ as, Reads s.heap u d as := by
  obtain ⟨H', I', h'⟩ := thaw I h
  exact reads_of I' d h' r hd
theorem readsT_repr (I : Inv X pins σ H s) {d : PyData} {x : V} {u : Value} (h : RepT X.K H d x) (r : RelV x u) (ok : reprOk d = true) : ∃ as, Reads s.heap u d as ∧ (d.hasDict = true → sysModules ∉ as) := by
  obtain ⟨H', I', h'⟩ := thaw I h
  exact reads_repr I' h' r ok
end
section
variable {X : Cx}
theorem call_reprT {k : Nat} (hr : Room k X.A) : CallR X (.builtin "repr") (fun xs H Q => ∃ x d, xs = [x] ∧ RepT X.K H d x ∧ reprOk d = true ∧ Q (.str d.shown) H) := by
  intro pins s σ H xs us Q I r h
  obtain ⟨x, d, rfl, rd, ok, q⟩ := h
  obtain ⟨u, rfl, rx⟩ := vals1 r
  obtain ⟨as, rr, hsm⟩ := readsT_repr I rd rx ok
  have ok' := ok
  simp only [reprOk, Bool.and_eq_true, decide_eq_true_eq] at ok'
  obtain ⟨⟨⟨hs, hz⟩, hd⟩, _⟩ := ok'
  have hu := hr.units
  cases rr with
  | none => exact PySem.P.repr_of_none ⟨.str _, H, I.tok _, ⟨_, rfl⟩, by simpa [PyData.shown] using q⟩
  | bool b => exact PySem.P.repr_of_bool ⟨.str _, H, I.tok _, ⟨_, rfl⟩, by simpa [PyData.shown] using q⟩
  | int i t =>
    refine PySem.P.repr_of_int (by simpa [PyData.showable] using hs) ⟨.str _, H, I.tok _, ⟨_, rfl⟩, ?_⟩
    rw [PyData.shown] at q
    exact q
  | str i t =>
    refine PySem.P.repr_of_str ⟨.str _, H, I.tok _, ⟨_, rfl⟩, ?_⟩ (by simpa [PyData.shown] using hz)
    rw [PyData.shown] at q
    exact q
  | list e1 e2 e3 e4 => exact repr_of_reads' (.list e1 e2 e3 e4) hs hsm hr.gd (by omega) (fun _ _ z => z) (fun h' u tk hk => ⟨.str _, H, I.kept hk, ⟨_, rfl⟩, q⟩) hz
  | tuple e1 e2 e3 e4 => exact repr_of_reads' (.tuple e1 e2 e3 e4) hs hsm hr.gd (by omega) (fun _ _ z => z) (fun h' u tk hk => ⟨.str _, H, I.kept hk, ⟨_, rfl⟩, q⟩) hz
  | dict e1 e2 e3 e4 e5 => exact repr_of_reads' (.dict e1 e2 e3 e4 e5) hs hsm hr.gd (by omega) (fun _ _ z => z) (fun h' u tk hk => ⟨.str _, H, I.kept hk, ⟨_, rfl⟩, q⟩) hz
theorem op_eqT {k : Nat} (hr : Room k X.A) : OpR X (compareOp .Eq) (fun x y H Q => ∃ d d', RepT X.K H d x ∧ RepT X.K H d' y ∧ eqOk2 d d' = true ∧ Q (.bl (PyData.eqv d d')) H) := by
  intro pins s σ H x y v u Q I rx ry h
  obtain ⟨d, d', h1, h2, o, q⟩ := h
  rcases eqOk2_cases o with ⟨a, b, e1, e2⟩ | ⟨o1, o2⟩
  · subst e1; subst e2
    rcases h1 with h1 | ⟨_, _, _, z, _⟩
    · rcases h2 with h2 | ⟨_, _, _, z, _⟩
      · exact op_eqD hr pins s σ H x y v u Q I rx ry ⟨_, _, h1, h2, o, q⟩
      · cases z
    · cases z
  simp only [eqOk, Bool.and_eq_true, Bool.not_eq_true'] at o1 o2
  obtain ⟨as, r1⟩ := readsT_of I d h1 rx o1.2
  obtain ⟨bs, r2⟩ := readsT_of I d' h2 ry o2.2
  exact eq_dataH r1 r2 o1.1 o2.1 hr.units ⟨.bl _, H, I, rfl, q⟩
theorem op_neT {k : Nat} (hr : Room k X.A) : OpR X (compareOp .NotEq) (fun x y H Q => ∃ d d', RepT X.K H d x ∧ RepT X.K H d' y ∧ eqOk2 d d' = true ∧ Q (.bl (!PyData.eqv d d')) H) := by
  intro pins s σ H x y v u Q I rx ry h
  obtain ⟨d, d', h1, h2, o, q⟩ := h
  rcases eqOk2_cases o with ⟨a, b, e1, e2⟩ | ⟨o1, o2⟩
  · subst e1; subst e2
    rcases h1 with h1 | ⟨_, _, _, z, _⟩
    · rcases h2 with h2 | ⟨_, _, _, z, _⟩
      · exact op_neD hr pins s σ H x y v u Q I rx ry ⟨_, _, h1, h2, o, q⟩
      · cases z
    · cases z
  simp only [eqOk, Bool.and_eq_true, Bool.not_eq_true'] at o1 o2
  obtain ⟨as, r1⟩ := readsT_of I d h1 rx o1.2
  obtain ⟨bs, r2⟩ := readsT_of I d' h2 ry o2.2
  exact ne_dataH r1 r2 o1.1 o2.1 hr.units ⟨.bl _, H, I, rfl, q⟩
end
section
variable {X : Cx} {K : PySem.W.Frag}
def rdEqT (w w' : W) (M : MH) (Q : QD) : Prop := ∃ d d', DatW M w d ∧ DatW M w' d' ∧ eqOk2 d d' = true ∧ Q (.d (.bool (PyData.eqv d d'))) M
def rdNeT (w w' : W) (M : MH) (Q : QD) : Prop := ∃ d d', DatW M w d ∧ DatW M w' d' ∧ eqOk2 d d' = true ∧ Q (.d (.bool (!PyData.eqv d d'))) M
theorem opd_eqT : OpD K (fun x y H Q => ∃ d d', RepT K H d x ∧ RepT K H d' y ∧ eqOk2 d d' = true ∧ Q (.bl (PyData.eqv d d')) H) rdEqT := by
  intro x y H w w' M Qd Q r1 r2 m ⟨d, d', g1, g2, o1, q⟩ k
  exact ⟨d, d', g1.sound r1 m, g2.sound r2 m, o1, k _ H (.d (.bool _)) M (Kp.refl H) (by simp [RepW, RepD]) m q⟩
theorem opd_neT : OpD K (fun x y H Q => ∃ d d', RepT K H d x ∧ RepT K H d' y ∧ eqOk2 d d' = true ∧ Q (.bl (!PyData.eqv d d')) H) rdNeT := by
  intro x y H w w' M Qd Q r1 r2 m ⟨d, d', g1, g2, o1, q⟩ k
  exact ⟨d, d', g1.sound r1 m, g2.sound r2 m, o1, k _ H (.d (.bool _)) M (Kp.refl H) (by simp [RepW, RepD]) m q⟩
def rdReprT (ws : List W) (M : MH) (Q : QD) : Prop := ∃ w d, ws = [w] ∧ DatW M w d ∧ reprOk d = true ∧ Q (.d (.str d.shown)) M
theorem cd_reprT : CallD K (fun xs H Q => ∃ x d, xs = [x] ∧ RepT K H d x ∧ reprOk d = true ∧ Q (.str d.shown) H) rdReprT := by
  intro vs H ws M Qd Q r m ⟨w, d, e, g, ok, q⟩ k
  subst e
  obtain ⟨v, e1, r1⟩ := repWs1 r
  exact ⟨v, d, e1, g.sound r1 m, ok, k _ H (.d (.str _)) M (Kp.refl H) (by simp [RepW, RepD]) m q⟩
/-- the items of a list or tuple -/
inductive SeqW (M : MH) : W → List W → Prop
  | l {ds : List PyData} : SeqW M (.d (.list ds)) (ds.map W.d)
  | t {ds : List PyData} : SeqW M (.d (.tuple ds)) (ds.map W.d)
  | m {a : Addr} {ws : List W} (h : M a = some (.lst ws)) : SeqW M (.m a) ws
theorem SeqW.sound {H : Hp} {M : MH} {w : W} {ws : List W} {x : V} (g : SeqW M w ws) (r : RepW K H w x) (m : MAbs K H M) : ∃ p ys, x = .ref p ∧ (SqL K H p ys ∨ SqT K H p ys) ∧ RepWs K H ws ys := by
  cases g with
  | l =>
    simp only [RepW, RepD] at r
    obtain ⟨a, vs, e, hs, ra⟩ := r
    exact ⟨a, vs, e, .inl hs.sq, ra.ws⟩
  | t =>
    simp only [RepW, RepD] at r
    obtain ⟨a, vs, e, hs, ra⟩ := r
    exact ⟨a, vs, e, .inr hs, ra.ws⟩
  | m h =>
    obtain ⟨vs, e, ra⟩ := m _ _ h
    exact ⟨_, vs, r, .inl (.inl (.inl e)), ra⟩
def rdListOf (ws : List W) (M : MH) (Q : QD) : Prop := ∃ w xs, ws = [w] ∧ SeqW M w xs ∧ ∀ p, M p = none → Q (.m p) (updM M p (.lst xs))
theorem cd_listOf : CallD K (fun xs H Q => ∃ p ys, xs = [.ref p] ∧ (SqL K H p ys ∨ SqT K H p ys) ∧ ∀ l, H l = none → Q (.ref l) (upd H l (.lst ys))) rdListOf := by
  intro vs H ws M Qd Q r m ⟨w, xs, e, g, q⟩ k
  subst e
  obtain ⟨v, e1, r1⟩ := repWs1 r
  obtain ⟨p, ys, ev, hs, rs⟩ := g.sound r1 m
  subst ev
  refine ⟨p, ys, e1, hs, fun l hl => ?_⟩
  have kp : Kp H (upd H l (.lst ys)) := Kp.new hl
  exact k _ _ (.m l) _ kp rfl (m.put (mo := .lst xs) kp ⟨ys, upd_same, rs.keep kp⟩) (q l (m.free hl))
def rdTupleOf (ws : List W) (M : MH) (Q : QD) : Prop := ∃ w ds, ws = [w] ∧ SeqW M w (ds.map W.d) ∧ Q (.d (.tuple ds)) M
theorem cd_tupleOf : CallD K (fun xs H Q => ∃ p ys, xs = [.ref p] ∧ ((SqL K H p ys ∧ ∀ l, H l = none → Q (.ref l) (upd H l (.tup ys))) ∨ (SqT K H p ys ∧ Q (.ref p) H))) rdTupleOf := by
  intro vs H ws M Qd Q r m ⟨w, ds, e, g, q⟩ k
  subst e
  obtain ⟨v, e1, r1⟩ := repWs1 r
  obtain ⟨p, ys, ev, hs, rs⟩ := g.sound r1 m
  subst ev
  rcases hs with hs | hs
  · refine ⟨p, ys, e1, .inl ⟨hs, fun l hl => ?_⟩⟩
    have kp : Kp H (upd H l (.tup ys)) := Kp.new hl
    refine k _ _ (.d (.tuple ds)) M kp ?_ (m.new hl) q
    simp only [RepW, RepD]
    exact ⟨l, ys, rfl, .inl (.inl upd_same), rs.data.keep kp⟩
  · refine ⟨p, ys, e1, .inr ⟨hs, ?_⟩⟩
    refine k _ _ (.d (.tuple ds)) M (Kp.refl H) ?_ m q
    simp only [RepW, RepD]
    exact ⟨p, ys, rfl, hs, rs.data⟩
/-- a text in a list or tuple of texts -/
def strsW (zs : List Str) : List W := zs.map fun z => .d (.str z)
theorem strs_rep {H : Hp} : ∀ {zs : List Str} {vs : List V}, RepWs K H (strsW zs) vs → vs = zs.map V.str
  | [], _, h => by cases h; rfl
  | z :: zs, _, h => by
    cases h with
    | cons r t =>
      simp only [RepW, RepD] at r
      rw [r, strs_rep t]
      rfl
theorem in_strs (z : Str) : ∀ zs : List Str, inV (.str z) (zs.map V.str) = decide (z ∈ zs)
  | [] => rfl
  | y :: zs => by
    have h : inV (.str z) ((y :: zs).map V.str) = ((y == z) || inV (.str z) (zs.map V.str)) := rfl
    rw [h, in_strs z zs]
    by_cases e : z = y
    · subst e; simp
    · have e' : (y == z) = false := by
        cases q : (y == z) with
        | false => rfl
        | true => exact absurd (eq_of_beq q).symm e
      rw [e']
      simp [e]
theorem flat_strs : ∀ zs : List Str, (zs.map V.str).all flatV = true
  | [] => rfl
  | _ :: zs => by simp [flatV]
def rdInL (neg : Bool) (w w' : W) (M : MH) (Q : QD) : Prop := ∃ z zs, w = .d (.str z) ∧ SeqW M w' (strsW zs) ∧ Q (.d (.bool (if neg then !decide (z ∈ zs) else decide (z ∈ zs)))) M
theorem opd_inS' (neg : Bool) : OpD K (rIn K neg) (rdInL neg) := by
  intro x y H w w' M Qd Q r1 r2 m ⟨z, zs, ew, g, q⟩ k
  subst ew
  simp only [RepW, RepD] at r1
  subst r1
  obtain ⟨p, ys, ey, hs, rs⟩ := g.sound r2 m
  have e := strs_rep rs
  subst e
  refine ⟨p, _, ey, hs, rfl, flat_strs zs, ?_⟩
  rw [in_strs]
  exact k _ H (.d (.bool _)) M (Kp.refl H) (by simp [RepW, RepD]) m q
/-- truth -/
inductive TruW (M : MH) : W → Bool → Prop
  | n : TruW M (.d .none) false
  | b {k : Bool} : TruW M (.d (.bool k)) k
  | i {k : Int} : TruW M (.d (.int k)) (k != 0)
  | s {z : Str} (h : z.length ≤ sizeLine) : TruW M (.d (.str z)) ((z.length : Int) != 0)
  | l {ds : List PyData} : TruW M (.d (.list ds)) (!ds.isEmpty)
  | t {ds : List PyData} : TruW M (.d (.tuple ds)) (!ds.isEmpty)
  | m {a : Addr} {ws : List W} (h : M a = some (.lst ws)) : TruW M (.m a) (!ws.isEmpty)
  | dk {a : Addr} {kvs : List (Key × W)} (h : M a = some (.dic kvs)) : TruW M (.m a) (!kvs.isEmpty)
theorem empty_len {α β : Type} {xs : List α} {ys : List β} (h : xs.length = ys.length) : xs.isEmpty = ys.isEmpty := by
  cases xs <;> cases ys <;> simp at h ⊢
theorem TruW.sound {H : Hp} {M : MH} {w : W} {b : Bool} {x : V} (g : TruW M w b) (r : RepW K H w x) (m : MAbs K H M) : TruV K x H b := by
  cases g with
  | n => simp only [RepW, RepD] at r; subst r; rfl
  | b => simp only [RepW, RepD] at r; subst r; rfl
  | i => simp only [RepW, RepD] at r; subst r; rfl
  | s h => simp only [RepW, RepD] at r; subst r; exact ⟨h, rfl⟩
  | l =>
    simp only [RepW, RepD] at r
    obtain ⟨a, vs, e, hs, ra⟩ := r
    subst e
    exact .inl ⟨vs, hs.sq, by rw [empty_len ra.length]⟩
  | t =>
    simp only [RepW, RepD] at r
    obtain ⟨a, vs, e, hs, ra⟩ := r
    subst e
    exact .inr (.inl ⟨vs, hs, by rw [empty_len ra.length]⟩)
  | m h =>
    obtain ⟨vs, e, ra⟩ := m _ _ h
    have r' : x = .ref _ := r
    subst r'
    exact .inl ⟨vs, .inl (.inl e), by rw [empty_len ra.length]⟩
  | dk h =>
    obtain ⟨l, e, pr⟩ := m _ _ h
    have r' : x = .ref _ := r
    subst r'
    exact .inr (.inr ⟨l, e, by rw [empty_len (tb_len pr)]⟩)
def dTru (ta : TD) (τ : DS) (M : MH) (Q : Bool → MH → Prop) : Prop := ta τ M fun w M1 => ∃ b, TruW M1 w b ∧ Q b M1
theorem ptd_truth {a : Expr} {ta : TD} (ha : PD X a ta) (he : ∀ whole : Sem Value, PySem.isTrue a X.env whole = (do let v ← whole; standAt a.pos; holding [v] (truthy v)) := by intro _; rfl) : PTd X a (dTru ta) :=
  pt_w (pt_truth ha he) fun σ H Q h => by
    obtain ⟨τ, M, Qd, A, h, k⟩ := h
    exact ⟨τ, M, _, A, h, fun v H' w M' kp r m ⟨b, g, q⟩ => ⟨b, g.sound r m, k b H' M' kp m q⟩⟩
/-- int(x) -/
def rdInt (ws : List W) (M : MH) (Q : QD) : Prop := (∃ i, ws = [.d (.int i)] ∧ Q (.d (.int i)) M) ∨ ∃ b, ws = [.d (.bool b)] ∧ Q (.d (.int (if b then 1 else 0))) M
theorem cd_int : CallD K (fun xs H Q => (∃ i, xs = [.int i] ∧ Q (.int i) H) ∨ ∃ k, xs = [.bl k] ∧ Q (.int (if k then 1 else 0)) H) rdInt := by
  intro vs H ws M Qd Q r m h k
  rcases h with ⟨i, e, q⟩ | ⟨b, e, q⟩
  · subst e
    obtain ⟨v, e1, r1⟩ := repWs1 r
    simp only [RepW, RepD] at r1
    subst r1
    exact .inl ⟨i, e1, k _ H (.d (.int i)) M (Kp.refl H) (by simp [RepW, RepD]) m q⟩
  · subst e
    obtain ⟨v, e1, r1⟩ := repWs1 r
    simp only [RepW, RepD] at r1
    subst r1
    exact .inr ⟨b, e1, k _ H (.d (.int _)) M (Kp.refl H) (by simp [RepW, RepD]) m q⟩
/-- max(a, b), min(a, b) -/
def rdMax2 (ws : List W) (M : MH) (Q : QD) : Prop := ∃ i j, ws = [.d (.int i), .d (.int j)] ∧ Q (.d (.int (if j > i then j else i))) M
theorem cd_max2 : CallD K (fun xs H Q => ∃ i j, xs = [V.int i, V.int j] ∧ Q (V.int (if j > i then j else i)) H) rdMax2 := by
  intro vs H ws M Qd Q r m ⟨i, j, e, q⟩ k
  subst e
  obtain ⟨v, v', e1, r1, r2⟩ := repWs2 r
  simp only [RepW, RepD] at r1 r2
  subst r1 r2
  exact ⟨i, j, e1, k _ H (.d (.int _)) M (Kp.refl H) (by simp [RepW, RepD]) m q⟩
end
end D

set_option Elab.async false
set_option linter.all false
set_option maxRecDepth 100000
set_option maxHeartbeats 4000000
/-! max of a list, list + list, targets, a, b = x, y, dict displays that may change. -/
namespace D
open PySem PySem.Spec PyProof.Rows L2
theorem ints_are : ∀ {ns : List Int} {its : List Value}, Vals (ns.map V.int) its → ∃ xs : List (Int × Tok), its = xs.map (fun p => Value.int p.1 p.2) ∧ xs.map (·.1) = ns
  | [], its, h => by cases h; exact ⟨[], rfl, rfl⟩
  | n :: ns, its, h => by
    cases h with
    | cons r t =>
      obtain ⟨tk, e⟩ := (show ∃ t, _ = Value.int n t from r)
      obtain ⟨xs, e1, e2⟩ := ints_are t
      exact ⟨(n, tk) :: xs, by rw [e, e1]; rfl, by rw [List.map_cons, e2]⟩
section
variable {X : Cx} {K : PySem.W.Frag}
theorem call_maxL (hc : X.calm = true) : CallR X (.builtin "max") (fun xs H Q => ∃ p ns, xs = [.ref p] ∧ SqL X.K H p (ns.map V.int) ∧ ns ≠ [] ∧ ∀ m, m ∈ ns → (∀ a ∈ ns, a ≤ m) → Q (.int m) H) := by
  intro pins s σ H xs us Q I r h
  obtain ⟨p, ns, rfl, hq, hne, q⟩ := h
  obtain ⟨u, rfl, rx⟩ := vals1 r
  cases rx
  obtain ⟨its, rv, pl, hz⟩ := I.list hq
  obtain ⟨ps, e1, e2⟩ := ints_are rv
  subst e1
  have hl : s.heap.IsList p (intItems ps.toArray) := by
    have e : (ps.map fun p => Value.int p.1 p.2).toArray = intItems ps.toArray := by simp [intItems]
    rw [← e]
    exact pl.isList
  have hpos : 0 < ps.toArray.size := by
    cases ps with
    | nil => exact absurd e2.symm hne
    | cons a b => simp
  refine max_intList (I.ok.hd hc) hl hpos fun v h' tk hv kk => ?_
  obtain ⟨b1, b2⟩ := argBest_gt (numAt ps.toArray) (ps.toArray.size - 1)
  have hb : argBest (fun i j => decide (numAt ps.toArray i > numAt ps.toArray j)) (ps.toArray.size - 1) < ps.length := by
    simp only [List.size_toArray] at b1 hpos ⊢
    omega
  have ev : v = Value.int (ps[argBest (fun i j => decide (numAt ps.toArray i > numAt ps.toArray j)) (ps.toArray.size - 1)]).1 (ps[argBest (fun i j => decide (numAt ps.toArray i > numAt ps.toArray j)) (ps.toArray.size - 1)]).2 := by
    have := hv
    simp only [intItems, List.map_toArray, List.getElem?_toArray, List.getElem?_map, List.getElem?_eq_getElem hb, Option.map_some, Option.some.injEq] at this
    exact this.symm
  have num : ∀ j (hj : j < ps.length), numAt ps.toArray j = (ps[j]).1 := fun j hj => by
    simp [numAt, List.getElem?_eq_getElem hj]
  rw [ev]
  refine ⟨.int _, H, I.kept kk, ⟨_, rfl⟩, q _ ?_ fun a ha => ?_⟩
  · rw [← e2]
    exact List.mem_map.mpr ⟨_, List.getElem_mem hb, rfl⟩
  · rw [← e2] at ha
    obtain ⟨pr, hp, rfl⟩ := List.mem_map.mp ha
    obtain ⟨j, hj, rfl⟩ := List.getElem_of_mem hp
    have := b2 j (by simp only [List.size_toArray]; omega)
    rw [num j hj, num _ hb] at this
    exact this
/-- list + list, whatever they are -/
def rCatS (K : PySem.W.Frag) : R2 := fun x y H Q => ∃ l b xs zs, x = .ref l ∧ y = .ref b ∧ SqL K H l xs ∧ SqL K H b zs ∧ xs.length + zs.length ≤ sizeLine ∧ ∀ p, H p = none → Q (.ref p) (upd H p (.lst (xs ++ zs)))
theorem op_catS : OpR X (binaryOp .Add) (rCatS X.K) := by
  intro pins s σ H x y v u Q I rx ry h
  obtain ⟨l, b, xs, zs, rfl, rfl, h1, h2, hz, q⟩ := h
  cases rx
  cases ry
  obtain ⟨its, r1, p1, _⟩ := I.list h1
  obtain ⟨its2, r2, p2, _⟩ := I.list h2
  have t1 := p1.isList.typeIs (s := s)
  have t2 := p2.isList.typeIs (s := s)
  obtain ⟨⟨oc, od, odt, osl⟩, n, e1, c1, d1, g1⟩ := p1
  obtain ⟨⟨oc2, od2, odt2, osl2⟩, n2, e2, c2, d2, g2⟩ := p2
  dsimp only at c1 d1 g1 c2 d2 g2
  subst c1 d1 g1 c2 d2 g2
  have hl1 := r1.length
  have hl2 := r2.length
  refine wpAny_binaryOp_concat (T := "list") t1 t2 noFill_list_add seq_list_add ?_
  refine call_meets PySem.F.slot_list_add t1 PySem.F.entry_list_add (PySem.F.args_list_add_2 _ _) (list_addW l b its.toArray its2.toArray n n2 none none osl osl2 (by simp only [List.size_toArray]; omega)) ⟨e1, e2, ?_⟩
  have ea : its.toArray ++ its2.toArray = (its ++ its2).toArray := by simp
  rw [ea]
  exact ⟨.ref _, _, I.lnew (t' := s.toks) (r1.append r2) (by rw [List.length_append]; omega), rfl, q _ I.fresh⟩
inductive LstW (M : MH) : W → List PyData → Prop
  | d {ds : List PyData} : LstW M (.d (.list ds)) ds
  | m {a : Addr} {ds : List PyData} (h : M a = some (.lst (ds.map W.d))) : LstW M (.m a) ds
theorem LstW.sound {H : Hp} {M : MH} {w : W} {ds : List PyData} {x : V} (g : LstW M w ds) (r : RepW K H w x) (m : MAbs K H M) : ∃ p ys, x = .ref p ∧ SqL K H p ys ∧ RepA K H ds ys := by
  cases g with
  | d =>
    simp only [RepW, RepD] at r
    obtain ⟨a, vs, e, hs, ra⟩ := r
    exact ⟨a, vs, e, hs.sq, ra⟩
  | m h =>
    obtain ⟨vs, e, ra⟩ := m _ _ h
    exact ⟨_, vs, r, .inl (.inl e), ra.data⟩
def dCat (ta tb : TD) (τ : DS) (M : MH) (Q : QD) : Prop := ta τ M fun w M1 => tb τ M1 fun w' M2 => ∃ xs ys, LstW M2 w xs ∧ LstW M2 w' ys ∧ xs.length + ys.length ≤ sizeLine ∧ Q (.d (.list (xs ++ ys))) M2
theorem pd_cat {a b : Expr} {pos : Pos} {ta tb : TD} (ha : PD X a ta) (hb : PD X b tb) : PD X (.BinOp a .Add b pos) (dCat ta tb) := pe_w (pe_frz (pe_op op_catS ha hb)) fun σ H Q h => by
  obtain ⟨τ, M, Qd, A, h, k⟩ := h
  refine ⟨τ, M, _, A, h, fun x H1 w M1 kp1 r1 m1 q1 => ⟨τ, M1, _, A.go kp1 m1, q1, fun y H2 w' M2 kp2 r2 m2 ⟨xs, ys, g1, g2, hz, q⟩ => ?_⟩⟩
  obtain ⟨p, vs, e1, s1, ra1⟩ := g1.sound (r1.keep kp2) m2
  obtain ⟨p', vs', e2, s2, ra2⟩ := g2.sound r2 m2
  refine ⟨p, p', vs, vs', e1, e2, s1, s2, by rw [ra1.length, ra2.length]; exact hz, fun c hc => ?_⟩
  exact imp_frz hc (ra1.append ra2) m2 q (kgo (kgo k kp1) kp2)
/-- max of a list of ints -/
def rdMaxL (ws : List W) (M : MH) (Q : QD) : Prop := ∃ w ns, ws = [w] ∧ LstW M w (ns.map PyData.int) ∧ ns ≠ [] ∧ ∀ m, m ∈ ns → (∀ a ∈ ns, a ≤ m) → Q (.d (.int m)) M
theorem repA_ints {H : Hp} : ∀ {ns : List Int} {vs : List V}, RepA K H (ns.map PyData.int) vs → vs = ns.map V.int
  | [], vs, h => by simpa [RepA] using h
  | n :: ns, vs, h => by
    simp only [List.map_cons, RepA] at h
    obtain ⟨v, r, e, h1, h2⟩ := h
    simp only [RepD] at h1
    rw [e, h1, repA_ints h2]
    rfl
theorem cd_maxL : CallD K (fun xs H Q => ∃ p ns, xs = [.ref p] ∧ SqL K H p (ns.map V.int) ∧ ns ≠ [] ∧ ∀ m, m ∈ ns → (∀ a ∈ ns, a ≤ m) → Q (.int m) H) rdMaxL := by
  intro vs H ws M Qd Q r m ⟨w, ns, e, g, hne, q⟩ k
  subst e
  obtain ⟨v, e1, r1⟩ := repWs1 r
  obtain ⟨p, ys, ev, hs, ra⟩ := g.sound r1 m
  have ey := repA_ints ra
  subst ev ey
  exact ⟨p, ns, e1, hs, hne, fun mx h1 h2 => k _ H (.d (.int mx)) M (Kp.refl H) (by simp [RepW, RepD]) m (q mx h1 h2)⟩
end
/-! ### targets -/
abbrev TGsd := List W → DS → MH → (DS → MH → Prop) → Prop
def upGs (K : PySem.W.Frag) (g : TGsd) : TGs := fun vs σ H Q => ∃ ws τ M Qd, RepWs K H ws vs ∧ Abs K H σ τ M ∧ g ws τ M Qd ∧ ∀ σ' H' τ' M', Kp H H' → Abs K H' σ' τ' M' → Qd τ' M' → Q σ' H'
abbrev PGsd (X : Cx) (es : List Expr) (g : TGsd) : Prop := PGs X es (upGs X.K g)
theorem pgs_w {X : Cx} {es : List Expr} {g g' : TGs} (h : PGs X es g) (k : ∀ v σ H Q, g' v σ H Q → g v σ H Q) : PGs X es g' := fun pins s σ H v u Q I r q => h pins s σ H v u Q I r (k v σ H Q q)
section
variable {X : Cx} {pos : Pos} {e : Expr} {es : List Expr}
def gsNil (ws : List W) (τ : DS) (M : MH) (Q : DS → MH → Prop) : Prop := ws = [] ∧ Q τ M
def gsCons (g : TGd) (gs : TGsd) (ws : List W) (τ : DS) (M : MH) (Q : DS → MH → Prop) : Prop := ∃ w r, ws = w :: r ∧ g w τ M fun τ' M' => gs r τ' M' Q
theorem pgsd_nil : PGsd X [] gsNil := pgs_w pgs_nil fun vs σ H Q ⟨ws, τ, M, Qd, r, A, ⟨e, q⟩, k⟩ => by
  subst e
  cases r
  exact ⟨rfl, k σ H τ M (Kp.refl H) A q⟩
theorem pgsd_cons {g : TGd} {gs : TGsd} (h1 : PGd X e g) (h2 : PGsd X es gs) (hs : (assignEach (e :: es) X.env).map (·.2) = assign e X.env :: (assignEach es X.env).map (·.2) := by rfl) : PGsd X (e :: es) (gsCons g gs) :=
  pgs_w (pgs_cons h1 h2 hs) fun vs σ H Q ⟨ws, τ, M, Qd, r, A, ⟨w, wr, ew, q⟩, k⟩ => by
    subst ew
    cases r with
    | cons r1 r2 =>
      refine ⟨_, _, rfl, w, τ, M, _, r1, A, q, fun σ1 H1 τ1 M1 kp1 A1 q1 => ?_⟩
      exact ⟨wr, τ1, M1, Qd, RepWs.keep kp1 r2, A1, q1, fun σ2 H2 τ2 M2 kp2 A2 q2 => k σ2 H2 τ2 M2 (kp1.trans kp2) A2 q2⟩
/-- (a, b, ..) = a tuple -/
def gT (n : Nat) (gs : TGsd) (w : W) (τ : DS) (M : MH) (Q : DS → MH → Prop) : Prop := ∃ ds, w = .d (.tuple ds) ∧ ds.length = n ∧ gs (ds.map W.d) τ M Q
theorem pgd_tup {k n : Nat} {gs : TGsd} (hc : X.calm = true) (h : PGsd X es gs) (hn : (assignEach es X.env).length = n := by rfl) (hst : (assignEach es X.env).findIdx? (·.1) = none := by rfl) : PGd X (.Tuple es k pos) (gT n gs) :=
  pg_w (pg_tup hc h hn hst) fun v σ H Q ⟨w, τ, M, Qd, r, A, ⟨ds, ew, hl, q⟩, kk⟩ => by
    subst ew
    simp only [RepW, RepD] at r
    obtain ⟨a, vs, ev, hs, ra⟩ := r
    exact ⟨a, vs, ev, hs, by rw [ra.length]; exact hl, ds.map W.d, τ, M, Qd, ra.ws, A, q, kk⟩
/-- a, b = x, y -/
def dPar (i j : Nat) (t : TAd) (D : Ed) (τ : DS) (M : MH) : Prop := t τ M fun ws M1 => ∃ v w, ws = [v, w] ∧ D.nx ((τ.set i (some v)).set j (some w)) M1
theorem psd_par {i j : Nat} {x y : Str} {a b : Expr} {t : TAd} {px py pt : Pos} {kt k2 pt2} (hc : X.calm = true) (hN : X.N.Nodup) (hi : X.N[i]? = some x) (hj : X.N[j]? = some y) (hij : i ≠ j)
    (hx : X.env.scope.names.lookup x = some .local) (hy : X.env.scope.names.lookup y = some .local) (ha : PAd X [a, b] t)
    (hw : swappedStores [.Tuple [.Name x px, .Name y py] kt pt] (.Tuple [a, b] k2 pt2) X.env = pure (some [x, y]) := by rfl)
    (hs : swapsWithSole [.Tuple [.Name x px, .Name y py] kt pt] (.Tuple [a, b] k2 pt2) pos.line X.env = pure false := by rfl) :
    PSd X (.Assign [.Tuple [.Name x px, .Name y py] kt pt] (.Tuple [a, b] k2 pt2) pos) (dPar i j t) := ps_w (ps_par hc hN hi hj hij hx hy ha hw hs) fun D σ H h => by
  obtain ⟨τ, M, Dd, A, h, k1, _⟩ := h
  refine ⟨τ, M, _, A, h, fun vs H1 ws M1 kp1 r1 m1 ⟨v, w, ew, q⟩ => ?_⟩
  subst ew
  obtain ⟨u1, u2, e1, r2, r3⟩ := repWs2 r1
  exact ⟨u1, u2, e1, k1 _ H1 _ M1 kp1 (((A.go kp1 m1).set i r2).set j r3) q⟩
/-- {k: v, ..} that may change, with values of the store -/
def dDictM (trs : List (TD × TD)) (τ : DS) (M : MH) (Q : QD) : Prop := ∀ p, M p = none → dPairs trs τ (updM M p (.dic [])) fun ps M2 => M2 p = some (.dic []) ∧ ∃ kvs : List (Key × W), ps = kvs.map (fun q => (kW q.1, q.2)) ∧ kvs.length ≤ 15 ∧ (kvs.map (·.1)).Nodup ∧
  Q (.m p) (updM M2 p (.dic kvs))
theorem pairs_keyW {K : PySem.W.Frag} {H : Hp} : ∀ {kvs : List (Key × W)} {ps : List (V × V)}, Paired (fun (p : W × W) (q : V × V) => RepW K H p.1 q.1 ∧ RepW K H p.2 q.2) (kvs.map fun q => (kW q.1, q.2)) ps →
    ∃ l : List (Key × V), ps = l.map (fun kv => (kV kv.1, kv.2)) ∧ l.map (·.1) = kvs.map (·.1) ∧ Paired (fun (p : Key × W) (q : Key × V) => p.1 = q.1 ∧ RepW K H p.2 q.2) kvs l
  | [], ps, h => by cases h; exact ⟨[], rfl, rfl, .nil⟩
  | (k, d) :: kvs, ps, h => by
    cases h with
    | cons r t =>
      rename_i q qs
      obtain ⟨x, y⟩ := q
      obtain ⟨l, e1, e2, e3⟩ := pairs_keyW t
      refine ⟨(k, y) :: l, ?_, by simp [e2], .cons ⟨rfl, r.2⟩ e3⟩
      rw [List.map_cons, ← e1, ← kW_rep r.1]
theorem pd_dictM {keys : List (Option Expr)} {values : List Expr} {trs : List (TD × TD)} (h : PPs X pos keys values (trs.map fun p => (up X.K p.1, up X.K p.2))) (hall : keys.all (·.isSome) = true := by rfl) (hl : keys.length = values.length := by rfl) (h0 : keys ≠ [] := by simp)
    (h15 : keys.length ≤ 15 := by decide) : PD X (.Dict keys values pos) (dDictM trs) := pe_w (pe_disp h hall hl h0 h15) fun σ H Q ⟨τ, M, Qd, A, q, k⟩ => fun p hp => by
  have kp0 : Kp H (upd H p (.dK [])) := Kp.new hp
  have m0 : MAbs X.K (upd H p (.dK [])) (updM M p (.dic [])) := A.mem.put (mo := .dic []) kp0 ⟨[], upd_same, .nil⟩
  have hM := A.mem.free hp
  refine imp_pairs (A.go kp0 m0) (q p hM) fun ps H2 ws M2 kp2 r2 m2 ⟨eM, kvs, ews, hlen, hnd, qq⟩ => ?_
  subst ews
  obtain ⟨l0, e0, pr0⟩ := m2 p _ eM
  have el0 : l0 = [] := by cases pr0; rfl
  subst el0
  obtain ⟨l, e1, e2, e3⟩ := pairs_keyW r2
  have elen : l.length = kvs.length := by
    have := congrArg List.length e2
    simpa using this
  refine ⟨e0, l, e1, by omega, ?_⟩
  have em : mergeK [] l = l := by rw [mergeK_new (by simpa [e2] using hnd)]; rfl
  rw [em]
  have kp3 : Kp H2 (upd H2 p (.dK l)) := Kp.set e0 (fun xs z => nomatch z) fun _ _ z => nomatch z
  exact k _ _ (.m p) _ ((kp0.trans kp2).trans kp3) rfl (m2.put (mo := .dic kvs) kp3 ⟨l, upd_same, Paired.mapP e3 fun p q z => ⟨z.1, z.2.keep kp3⟩⟩) qq
end
end D

set_option Elab.async false
set_option linter.all false
set_option maxRecDepth 100000
set_option maxHeartbeats 4000000
/-! METHODS of the text; the call of a type. -/
namespace D
open PySem PySem.Spec PyProof.Rows L2
structure Mf (K : PySem.W.Frag) (C : Addr) (x qual : Str) (st : Stmt) (ps : List Str) (f : Addr) (fd : FuncData) : Prop where
  fn : Fun K x qual st f fd
  me : Meth K C x f
  bd : Binds K fd ps []
structure Mi (K : PySem.W.Frag) (C : Addr) (qual : Str) (st : Stmt) (ps : List Str) (f : Addr) (fd : FuncData) : Prop where
  fn : Fun K "__init__" qual st f fd
  mi : Mk K C f
  bd : Binds K fd ps []
section
variable {K : PySem.W.Frag} {C : Addr}
theorem mf_mk {x qual : Str} {st : Stmt} {ps : List Str} {f : Addr} {oc : Value} {od an : Option Addr} {osl : Array (Option Value)} {kV doc pm cdv ct : Value} (a : PySem.W.findIn K (.ref C) x = some (some (.ref f))) (i : PySem.W.isFn K (.ref f) = true)
    (l : K.lookup f = some ⟨oc, od, .func (PySem.W.fnOf x qual (defArgs st) (defBody st) (defScope st) .none kV doc pm an cdv ct), osl⟩) (c : PySem.W.codeIn K cdv qual = true) (k : PySem.W.keepIn K (.ref f) = true)
    (b : ∀ (kV doc pm : Value) (an : Option Addr) (cdv ct : Value) (us : List Value), us.length = ps.length → bindArgs (PySem.W.fnOf x qual (defArgs st) (defBody st) (defScope st) .none kV doc pm an cdv ct) ⟨us, []⟩ = pure (ps.zip us)) :
    Mf K C x qual st ps f (PySem.W.fnOf x qual (defArgs st) (defBody st) (defScope st) .none kV doc pm an cdv ct) :=
  have F := fun_mk (st := st) l c k
  ⟨F, ⟨a, i, k⟩, F.binds b⟩
theorem mi_mk {qual : Str} {st : Stmt} {ps : List Str} {f : Addr} {oc : Value} {od an : Option Addr} {osl : Array (Option Value)} {kV doc pm cdv ct : Value} (a : PySem.W.findIn K (.ref C) "__init__" = some (some (.ref f))) (i : PySem.W.isFn K (.ref f) = true)
    (l : K.lookup f = some ⟨oc, od, .func (PySem.W.fnOf "__init__" qual (defArgs st) (defBody st) (defScope st) .none kV doc pm an cdv ct), osl⟩) (c : PySem.W.codeIn K cdv qual = true) (k : PySem.W.keepIn K (.ref f) = true)
    (mk : PySem.W.makesIn K C = true) (kc : PySem.W.keepIn K (.ref C) = true)
    (b : ∀ (kV doc pm : Value) (an : Option Addr) (cdv ct : Value) (us : List Value), us.length = ps.length → bindArgs (PySem.W.fnOf "__init__" qual (defArgs st) (defBody st) (defScope st) .none kV doc pm an cdv ct) ⟨us, []⟩ = pure (ps.zip us)) :
    Mi K C qual st ps f (PySem.W.fnOf "__init__" qual (defArgs st) (defBody st) (defScope st) .none kV doc pm an cdv ct) :=
  have F := fun_mk (st := st) l c k
  ⟨F, ⟨mk, a, i, kc⟩, F.binds b⟩
end
section
variable {X : Cx} {pos p : Pos} {e : Expr} {es : List Expr} {t : TAd} {x : Str} {T : String} {r : List V → Hp → VK → Prop} {rd : List W → MH → QD → Prop}
theorem pcT (hc : CallR X (.type T) r) (hd : CallD X.K r rd) (hg : Gl X x) (hm : X.mg x = none) (hv : bootBuiltins x = some (.type T)) (ha : PAd X (e :: es) t) (hn : x ≠ "__name__" := by decide) (hdb : (x == ("__debug__" : Str)) = false := by decide)
    (h1 : isSt e = false := by rfl) (h2 : (es.all fun e => !isSt e) = true := by rfl) : PD X (.Call (.Name x p) (e :: es) [] pos) (dCB rd t) := pd_callTy hc hd hg hm hv ha hn hdb (star_ok e es X.env h1) (plain_ok pos X.env es h2)
end
theorem bb_max : bootBuiltins "max" = some (.builtin "max") := by decide +kernel
end D

set_option Elab.async false
set_option linter.all false
set_option maxRecDepth 100000
set_option maxHeartbeats 4000000
/-! THE RULES, SEALED. -/
namespace D
open PySem PySem.Spec PyProof.Rows L2
namespace Q
section
variable {X : Cx} {o i e f : Expr} {pos apos cpos : Pos} {td ty tx : TE}
end
section
variable {X : Cx} {o i e f value : Expr} {es : List Expr} {pos pos' apos cpos : Pos} {td ti tx tv : TD} {t : TAd}
theorem pd_newDic  : Jd (PD X (.Dict [] [] pos) dNewDic) := ⟨D.pd_newDic ⟩
theorem pd_newDct  : Jd (PD X (.Dict [] [] pos) dNewDct) := ⟨D.pd_newDct ⟩
theorem pd_din (hu : X.A.units + 1 < cLine) (hi : Jd (PD X i ti)) (ho : Jd (PD X o td)) (hm : behindInMarks .In o = false := by rfl) : Jd (PD X (.Compare i [.In] [o] pos) (dDIn ti td)) := ⟨D.pd_din (hu := hu) (hi := hi.h) (ho := ho.h) (hm := hm)⟩
theorem pd_dnotin (hu : X.A.units + 1 < cLine) (hi : Jd (PD X i ti)) (ho : Jd (PD X o td)) (hm : behindInMarks .NotIn o = false := by rfl) : Jd (PD X (.Compare i [.NotIn] [o] pos) (dDNotIn ti td)) := ⟨D.pd_dnotin (hu := hu) (hi := hi.h) (ho := ho.h) (hm := hm)⟩
theorem ptd_din (hu : X.A.units + 1 < cLine) (hi : Jd (PD X i ti)) (ho : Jd (PD X o td)) (hm : behindInMarks .In o = false := by rfl) : Jd (PTd X (.Compare i [.In] [o] pos) (dTest (dDIn ti td))) := ⟨D.ptd_din (hu := hu) (hi := hi.h) (ho := ho.h) (hm := hm)⟩
theorem ptd_dnotin (hu : X.A.units + 1 < cLine) (hi : Jd (PD X i ti)) (ho : Jd (PD X o td)) (hm : behindInMarks .NotIn o = false := by rfl) : Jd (PTd X (.Compare i [.NotIn] [o] pos) (dTest (dDNotIn ti td))) := ⟨D.ptd_dnotin (hu := hu) (hi := hi.h) (ho := ho.h) (hm := hm)⟩
theorem pd_dget (hu : X.A.units + 1 < cLine) (ho : Jd (PD X o td)) (hi : Jd (PD X i ti)) (hs : NoSl i := by exact fun _ _ => rfl) : Jd (PD X (.Subscript o i pos) (dDGet td ti)) := ⟨D.pd_dget (hu := hu) (ho := ho.h) (hi := hi.h) (hs := hs)⟩
theorem pd_get1 (hu : X.A.units + 1 < cLine) (ho : Jd (PD X o td)) (he : Jd (PD X e ti)) (m : M1 X o "get" apos e cpos := by exact ⟨rfl, rfl, rfl, rfl⟩) : Jd (PD X (.Call (.Attribute o "get" apos) [e] [] cpos) (dGet1 td ti)) := ⟨D.pd_get1 (hu := hu) (ho := ho.h) (he := he.h) (m := m)⟩
theorem pd_get2 (hu : X.A.units + 1 < cLine) (ho : Jd (PD X o td)) (he : Jd (PD X e ti)) (hf : Jd (PD X f tx)) (m : M2 X o "get" apos e f cpos := by exact ⟨rfl, rfl, rfl, rfl⟩) : Jd (PD X (.Call (.Attribute o "get" apos) [e, f] [] cpos) (dGet2 td ti tx)) := ⟨D.pd_get2 (hu := hu) (ho := ho.h) (he := he.h) (hf := hf.h) (m := m)⟩
theorem pd_setdef (ho : Jd (PD X o td)) (he : Jd (PD X e ti)) (hf : Jd (PD X f tx)) (m : M2 X o "setdefault" apos e f cpos := by exact ⟨rfl, rfl, rfl, rfl⟩) : Jd (PD X (.Call (.Attribute o "setdefault" apos) [e, f] [] cpos) (dSetDef td ti tx)) := ⟨D.pd_setdef (ho := ho.h) (he := he.h) (hf := hf.h) (m := m)⟩
theorem psd_dput (hu : X.A.units + 1 < cLine) (ho : Jd (PD X o td)) (hi : Jd (PD X i ti)) (hv : Jd (PD X value tv)) (hs : swapsWith value (some (.Subscript o i pos')) pos.line X.env = pure false := by rfl) : Jd (PSd X (.Assign [.Subscript o i pos'] value pos) (dDPut td ti tv)) := ⟨D.psd_dput (hu := hu) (ho := ho.h) (hi := hi.h) (hv := hv.h) (hs := hs)⟩
theorem psd_dputT {x1 : Nat} {p2 : Pos} (hu : X.A.units + 1 < cLine) (ho : Jd (PD X o td)) (hi : Jd (PAd X es t)) (hv : Jd (PD X value tv)) (hs : swapsWith value (some (.Subscript o (.Tuple es x1 p2) pos')) pos.line X.env = pure false := by rfl) : Jd (PSd X (.Assign [.Subscript o (.Tuple es x1 p2) pos'] value pos) (dDPutT td t tv)) := ⟨D.psd_dputT (hu := hu) (ho := ho.h) (hi := hi.h) (hv := hv.h) (hs := hs)⟩
end
section
variable {X : Cx} {C f : Addr} {o e value : Expr} {es : List Expr} {fn m x : Str} {pos pos' apos p : Pos} {td tv te : TD} {t : TAd} {k : Nat} {fd : FuncData} {ps : List Str} {sp : SpD}
theorem pd_fld (c : Cls X.K C) (n : NoAttr X.K C fn) (he : Jd (PD X e td)) (hb : attributeBase e fn X.env (eval e X.env) = eval e X.env := by rfl) : Jd (PD X (.Attribute e fn pos) (dFld C td fn)) := ⟨D.pd_fld (c := c) (n := n) (he := he.h) (hb := hb)⟩
theorem psd_fld (c : Cls X.K C) (n : NoAttr X.K C fn) (ha : Jd (PD X o td)) (hv : Jd (PD X value tv)) (hs : swapsWith value (some (.Attribute o fn pos')) pos.line X.env = pure false := by rfl) : Jd (PSd X (.Assign [.Attribute o fn pos'] value pos) (dFldPut C td tv fn)) := ⟨D.psd_fld (c := c) (n := n) (ha := ha.h) (hv := hv.h) (hs := hs)⟩
theorem pd_meth {pl : Sem Bool} (he : Jd (PD X o td)) (c : Cls X.K C) (hm : Meth X.K C m f) (F : FnOk X.prog X.w X.K X.mg X.base CX0 k f fd ps (upSp X.K sp)) (hr : Room k X.A) (hb : Binds X.K fd ps []) (ha : Jd (PAd X (e :: es) t)) (ht : eval (.Call (.Attribute o m apos) (e :: es) [] pos) X.env = (do
      let ov ← eval o X.env
      standAt apos.atName
      let (f, first) ← holding [ov] (getMethod ov m pl)
      callWith pos f first (backTo pos (starEach (e :: es) X.env)) (backToKw pos (keywordEach [] X.env))) := by rfl) (h1 : isSt e = false := by rfl) (h2 : (es.all fun e => !isSt e) = true := by rfl) : Jd (PD X (.Call (.Attribute o m apos) (e :: es) [] pos) (dMeth C m sp td t)) := ⟨D.pd_meth (he := he.h) (c := c) (hm := hm) (F := F) (hr := hr) (hb := hb) (ha := ha.h) (ht := ht) (h1 := h1) (h2 := h2)⟩
theorem pd_meth0 {pl : Sem Bool} (he : Jd (PD X o td)) (c : Cls X.K C) (hm : Meth X.K C m f) (F : FnOk X.prog X.w X.K X.mg X.base CX0 k f fd ps (upSp X.K sp)) (hr : Room k X.A) (hb : Binds X.K fd ps []) (ht : eval (.Call (.Attribute o m apos) [] [] pos) X.env = (do
      let ov ← eval o X.env
      standAt apos.atName
      let (f, first) ← holding [ov] (getMethod ov m pl)
      callWith pos f first (backTo pos (starEach [] X.env)) (backToKw pos (keywordEach [] X.env))) := by rfl) : Jd (PD X (.Call (.Attribute o m apos) [] [] pos) (dMeth C m sp td dNil)) := ⟨D.pd_meth0 (he := he.h) (c := c) (hm := hm) (F := F) (hr := hr) (hb := hb) (ht := ht)⟩
theorem pd_make (Mk' : Mk X.K C f) (F : FnOk X.prog X.w X.K X.mg X.base CX0 k f fd ps (upSp X.K sp)) (hr : Room (k + 1) X.A) (hg : Gl X x) (hm : X.mg x = some (.ref C)) (hb : Binds X.K fd ps []) (ha : Jd (PAd X (e :: es) t)) (hdb : (x == ("__debug__" : Str)) = false := by decide) (h1 : isSt e = false := by rfl) (h2 : (es.all fun e => !isSt e) = true := by rfl) : Jd (PD X (.Call (.Name x p) (e :: es) [] pos) (dMake C sp t)) := ⟨D.pd_make (Mk' := Mk') (F := F) (hr := hr) (hg := hg) (hm := hm) (hb := hb) (ha := ha.h) (hdb := hdb) (h1 := h1) (h2 := h2)⟩
theorem pd_make0 (Mk' : Mk X.K C f) (F : FnOk X.prog X.w X.K X.mg X.base CX0 k f fd ps (upSp X.K sp)) (hr : Room (k + 1) X.A) (hg : Gl X x) (hm : X.mg x = some (.ref C)) (hb : Binds X.K fd ps []) (hdb : (x == ("__debug__" : Str)) = false := by decide) : Jd (PD X (.Call (.Name x p) [] [] pos) (dMake C sp dNil)) := ⟨D.pd_make0 (Mk' := Mk') (F := F) (hr := hr) (hg := hg) (hm := hm) (hb := hb) (hdb := hdb)⟩
end
section
variable {X : Cx} {o e : Expr} {pos apos cpos : Pos} {td te : TD}
theorem pd_seal (h : Jd (PD X e td)) : Jd (PD X e (dSeal td)) := ⟨D.pd_seal (h := h.h)⟩
theorem pd_append (ho : Jd (PD X o td)) (he : Jd (PD X e te)) (hbase : attributeBase o "append" X.env (eval o X.env) = eval o X.env := by rfl) (hfew : ((backTo cpos (starEach [e] X.env)).all (fun x => !x.1) && (backToKw cpos (keywordEach [] X.env)).all (fun x => x.1.isSome)
      && decide (([e] : List Expr).length + ([] : List Keyword).length + (if ([] : List Keyword).isEmpty then 0 else 1) < 30)) = true := by rfl) (hline : (apos.endLine == cpos.line) = true := by rfl) (hs : isSt e = false := by rfl) : Jd (PD X (.Call (.Attribute o "append" apos) [e] [] cpos) (dAppend td te)) := ⟨D.pd_append (ho := ho.h) (he := he.h) (hbase := hbase) (hfew := hfew) (hline := hline) (hs := hs)⟩
theorem pd_reverse (ho : Jd (PD X o td)) (hbase : attributeBase o "reverse" X.env (eval o X.env) = eval o X.env := by rfl) (hline : (apos.endLine == cpos.line) = true := by rfl) : Jd (PD X (.Call (.Attribute o "reverse" apos) [] [] cpos) (dReverse td)) := ⟨D.pd_reverse (ho := ho.h) (hbase := hbase) (hline := hline)⟩
end
section
variable {X : Cx} {pins : List (Addr × Obj)} {σ : St} {H : Hp} {s : Shared}
end
section
variable {X : Cx}
end
section
variable {X : Cx} {K : PySem.W.Frag}
theorem ptd_truth {a : Expr} {ta : TD} (ha : Jd (PD X a ta)) (he : ∀ whole : Sem Value, PySem.isTrue a X.env whole = (do let v ← whole; standAt a.pos; holding [v] (truthy v)) := by intro _; rfl) : Jd (PTd X a (dTru ta)) := ⟨D.ptd_truth (ha := ha.h) (he := he)⟩
end
section
variable {X : Cx} {K : PySem.W.Frag}
theorem pd_cat {a b : Expr} {pos : Pos} {ta tb : TD} (ha : Jd (PD X a ta)) (hb : Jd (PD X b tb)) : Jd (PD X (.BinOp a .Add b pos) (dCat ta tb)) := ⟨D.pd_cat (ha := ha.h) (hb := hb.h)⟩
end
section
variable {X : Cx} {pos : Pos} {e : Expr} {es : List Expr}
theorem pgsd_nil  : Jd (PGsd X [] gsNil) := ⟨D.pgsd_nil ⟩
theorem pgsd_cons {g : TGd} {gs : TGsd} (h1 : Jd (PGd X e g)) (h2 : Jd (PGsd X es gs)) (hs : (assignEach (e :: es) X.env).map (·.2) = assign e X.env :: (assignEach es X.env).map (·.2) := by rfl) : Jd (PGsd X (e :: es) (gsCons g gs)) := ⟨D.pgsd_cons (h1 := h1.h) (h2 := h2.h) (hs := hs)⟩
theorem pgd_tup {k n : Nat} {gs : TGsd} (hc : X.calm = true) (h : Jd (PGsd X es gs)) (hn : (assignEach es X.env).length = n := by rfl) (hst : (assignEach es X.env).findIdx? (·.1) = none := by rfl) : Jd (PGd X (.Tuple es k pos) (gT n gs)) := ⟨D.pgd_tup (hc := hc) (h := h.h) (hn := hn) (hst := hst)⟩
theorem psd_par {i j : Nat} {x y : Str} {a b : Expr} {t : TAd} {px py pt : Pos} {kt k2 pt2} (hc : X.calm = true) (hN : X.N.Nodup) (hi : X.N[i]? = some x) (hj : X.N[j]? = some y) (hij : i ≠ j) (hx : X.env.scope.names.lookup x = some .local) (hy : X.env.scope.names.lookup y = some .local) (ha : Jd (PAd X [a, b] t)) (hw : swappedStores [.Tuple [.Name x px, .Name y py] kt pt] (.Tuple [a, b] k2 pt2) X.env = pure (some [x, y]) := by rfl) (hs : swapsWithSole [.Tuple [.Name x px, .Name y py] kt pt] (.Tuple [a, b] k2 pt2) pos.line X.env = pure false := by rfl) : Jd (PSd X (.Assign [.Tuple [.Name x px, .Name y py] kt pt] (.Tuple [a, b] k2 pt2) pos) (dPar i j t)) := ⟨D.psd_par (hc := hc) (hN := hN) (hi := hi) (hj := hj) (hij := hij) (hx := hx) (hy := hy) (ha := ha.h) (hw := hw) (hs := hs)⟩
theorem pd_dictM {keys : List (Option Expr)} {values : List Expr} {trs : List (TD × TD)} (h : Jd (PPs X pos keys values (trs.map (pm X.K)))) (hall : keys.all (·.isSome) = true := by rfl) (hl : keys.length = values.length := by rfl) (h0 : keys ≠ [] := by simp) (h15 : keys.length ≤ 15 := by decide) : Jd (PD X (.Dict keys values pos) (dDictM trs)) := ⟨D.pd_dictM (h := h.h) (hall := hall) (hl := hl) (h0 := h0) (h15 := h15)⟩
end
section
variable {K : PySem.W.Frag} {C : Addr}
end
section
variable {X : Cx} {pos p : Pos} {e : Expr} {es : List Expr} {t : TAd} {x : Str} {T : String} {r : List V → Hp → VK → Prop} {rd : List W → MH → QD → Prop}
theorem pcT (hc : CallR X (.type T) r) (hd : CallD X.K r rd) (hg : Gl X x) (hm : X.mg x = none) (hv : bootBuiltins x = some (.type T)) (ha : Jd (PAd X (e :: es) t)) (hn : x ≠ "__name__" := by decide) (hdb : (x == ("__debug__" : Str)) = false := by decide) (h1 : isSt e = false := by rfl) (h2 : (es.all fun e => !isSt e) = true := by rfl) : Jd (PD X (.Call (.Name x p) (e :: es) [] pos) (dCB rd t)) := ⟨D.pcT (hc := hc) (hd := hd) (hg := hg) (hm := hm) (hv := hv) (ha := ha.h) (hn := hn) (hdb := hdb) (h1 := h1) (h2 := h2)⟩
end
end Q
end D

set_option Elab.async false
set_option linter.all false
set_option maxRecDepth 100000
set_option maxHeartbeats 4000000
namespace D
open PySem PySem.Spec PyProof.Rows L2
/-! ### small facts that the readings ask -/
@[simp] theorem eqOk2_int (i j : Int) : eqOk2 (.int i) (.int j) = true := rfl
@[simp] theorem eqOk2_str (x y : Str) : eqOk2 (.str x) (.str y) = true := rfl
@[simp] theorem eqOk2_bool (x y : Bool) : eqOk2 (.bool x) (.bool y) = true := rfl
@[simp] theorem eqv_int (i j : Int) : PyData.eqv (.int i) (.int j) = (i == j) := by rw [PyData.eqv]
@[simp] theorem eqv_str (i j : Str) : PyData.eqv (.str i) (.str j) = (i == j) := by rw [PyData.eqv]
@[simp] theorem fitW_m (a : Addr) : fitW (.m a) = true := rfl
@[simp] theorem fitW_list (ds : List PyData) : fitW (.d (.list ds)) = true := rfl
@[simp] theorem fitW_tuple (ds : List PyData) : fitW (.d (.tuple ds)) = true := rfl
@[simp] theorem ixN_zero (n : Nat) : ixN (n + 1) 0 = some 0 := by unfold ixN; simp
theorem atI_nn {α : Type} {xs : List α} {i : Int} (h0 : 0 ≤ i) (h1 : i < xs.length) : atI xs i = some (xs[i.toNat]'(by omega)) := by
  unfold atI ixN
  rw [if_pos h0, if_pos h1]
  simp
/-- the bag of drawn numbers -/
def Bag (M : MH) (p : Addr) : Prop := ∃ (a b c : Int) (ns : List Int), M p = some (.lst [.d (.int a), .d (.int b), .d (.int c), .d (.list (ns.map PyData.int))]) ∧ 0 ≤ a ∧ 0 ≤ b ∧ b < 2147483647 ∧ 0 ≤ c ∧ (∀ n ∈ ns, 0 ≤ n)
def sp_l_bag : SpD := fun ws M Q => ∃ ns : List Int, ws = [.d (.list (ns.map PyData.int))] ∧ ns.length ≤ 1000 ∧ ∀ p M', M p = none → (∀ q, q ≠ p → M' q = M q) → Bag M' p → Q (.m p) M'
def sp_l_take : SpD := fun ws M Q => ∃ (p : Addr) (n : Int), ws = [.m p, .d (.int n)] ∧ Bag M p ∧ 0 < n ∧ n < 1073741824 ∧ ∀ (r : Int) M', 0 ≤ r → r < n → Bag M' p → (∀ q, q ≠ p → M' q = M q) → Q (.d (.int r)) M'
theorem len_l_bag : ∀ ws M Q, sp_l_bag ws M Q → ws.length = 1 := by rintro ws M Q ⟨ns, rfl, _⟩; rfl
theorem len_l_take : ∀ ws M Q, sp_l_take ws M Q → ws.length = 2 := by rintro ws M Q ⟨p, n, rfl, _⟩; rfl
theorem ixN_nat {n : Nat} {i : Int} (h0 : 0 ≤ i) (h1 : i < n) : ixN n i = some i.toNat := by unfold ixN; rw [if_pos h0, if_pos h1]
theorem ix_m {M : MH} {p : Addr} {ws : List W} {i : Int} {x : W} (hm : M p = some (.lst ws)) (h : atI ws i = some x) : ixW M (.m p) i = some x := by
  simp only [ixW, hm]; exact h
theorem ite_b {c : Bool} {A B : Prop} (h1 : c = true → A) (h2 : c = false → B) : if c = true then A else B := by
  cases c with
  | true => rw [if_pos rfl]; exact h1 rfl
  | false => rw [if_neg Bool.false_ne_true]; exact h2 rfl
end D

set_option Elab.async false
set_option linter.all false
set_option maxRecDepth 100000
set_option maxHeartbeats 4000000
namespace D
open PySem PySem.Spec PyProof.Rows L2
abbrev N_l_bag : List Str := ["_law_script"]
def t_l_bag : TSd :=
    dRet (dLstM (dCons (dC (.d (.int 0))) (dCons (dC (.d (.int 1234567891))) (dCons (dC (.d (.int 0))) (dCons (dLC (dItems (dSl (dVar 0) (dNoPart) (dPart (dC (.d (.int 63)))))) (gN 0) (dYes) (dCB rdAbs (dCons (dVar 0) (dNil))) 1 []) (dNil))))))

abbrev N_l_take : List Str := ["_law_bag_here", "_law_many", "_law_cell", "_law_value", "_law_first", "_law_second"]
def t_l_take : TSd :=
    dSeq (dIf (dTest (dOp rdEq (dOp rdIx (dVar 0) (dC (.d (.int 0)))) (dC (.d (.int 0)))))
      (dSeq (dAsg (dC (.d (.int 0))) (gN 2)) <|
      dSeq (dIf (dTest (dOp rdLt (dOp rdIx (dVar 0) (dC (.d (.int 2)))) (dCB rdLen (dCons (dOp rdIx (dVar 0) (dC (.d (.int 3)))) (dNil)))))
        (dAsg (dOp rdIx (dOp rdIx (dVar 0) (dC (.d (.int 3)))) (dOp rdIx (dVar 0) (dC (.d (.int 2))))) (gN 2))
        (dNext)) <|
      dSeq (dAugS (dVar 0) (dC (.d (.int 2))) (dC (.d (.int 1))) (fun i j => i + j)) <|
      dSeq (dIf (dTest (dOp rdGe (dVar 2) (dC (.d (.int 1000000000000000000)))))
        (dAsg (dVar 2) (gSet (dVar 0) (dC (.d (.int 0)))))
        (dNext)) <|
      dAsg (dOp rdMod (dOp rdAdd (dOp rdAdd (dOp rdMul (dOp rdIx (dVar 0) (dC (.d (.int 1)))) (dC (.d (.int 48271)))) (dOp rdMod (dVar 2) (dC (.d (.int 2147483647))))) (dOp rdMul (dC (.d (.int 7919))) (dOp rdIx (dVar 0) (dC (.d (.int 2)))))) (dC (.d (.int 2147483647)))) (gSet (dVar 0) (dC (.d (.int 1)))))
      (dNext)) <|
    dSeq (dIf (dTest (dOp rdGt (dOp rdIx (dVar 0) (dC (.d (.int 0)))) (dC (.d (.int 0)))))
      (dSeq (dAsg (dOp rdMod (dOp rdIx (dVar 0) (dC (.d (.int 0)))) (dVar 1)) (gN 3)) <|
      dSeq (dAsg (dOp rdDiv (dOp rdIx (dVar 0) (dC (.d (.int 0)))) (dVar 1)) (gSet (dVar 0) (dC (.d (.int 0))))) <|
      dRet (dVar 3))
      (dNext)) <|
    dSeq (dAsg (dOp rdMod (dOp rdMul (dOp rdAdd (dOp rdIx (dVar 0) (dC (.d (.int 1)))) (dC (.d (.int 1)))) (dC (.d (.int 39373)))) (dC (.d (.int 1000000007)))) (gN 4)) <|
    dSeq (dAsg (dOp rdMod (dOp rdMul (dOp rdMod (dOp rdMul (dVar 4) (dVar 4)) (dC (.d (.int 998244353)))) (dC (.d (.int 30011)))) (dC (.d (.int 998244353)))) (gN 5)) <|
    dSeq (dIf (dTest (dOp rdGt (dVar 1) (dC (.d (.int 1000000)))))
      (dRet (dOp rdMod (dOp rdAdd (dOp rdMul (dVar 5) (dC (.d (.int 1000000007)))) (dVar 4)) (dVar 1)))
      (dNext)) <|
    dRet (dOp rdMod (dOp rdDiv (dVar 5) (dC (.d (.int 7)))) (dVar 1))

/-- the bag's four parts -/
abbrev bagL (a b c : Int) (ns : List Int) : List W := [.d (.int a), .d (.int b), .d (.int c), .d (.list (ns.map PyData.int))]
theorem read_take2 {M : MH} {Q : QD} {p : Addr} {n : Int} {a b c : Int} {ns : List Int} {x : Option W} (hm : M p = some (.lst (bagL a b c ns))) (ha : 0 ≤ a) (hb : 0 ≤ b) (hb2 : b < 2147483647) (hc : 0 ≤ c) (hns : ∀ n ∈ ns, 0 ≤ n) (hn : 0 < n) (hn2 : n < 1073741824)
    (k : ∀ (r : Int) M', 0 ≤ r → r < n → Bag M' p → (∀ q, q ≠ p → M' q = M q) → Q (.d (.int r)) M') {D : Ed} (hD : D.rt = Q) :
    (dSeq (dIf (dTest (dOp rdGt (dOp rdIx (dVar 0) (dC (.d (.int 0)))) (dC (.d (.int 0)))))
      (dSeq (dAsg (dOp rdMod (dOp rdIx (dVar 0) (dC (.d (.int 0)))) (dVar 1)) (gN 3)) <|
      dSeq (dAsg (dOp rdDiv (dOp rdIx (dVar 0) (dC (.d (.int 0)))) (dVar 1)) (gSet (dVar 0) (dC (.d (.int 0))))) <|
      dRet (dVar 3))
      (dNext)) <|
    dSeq (dAsg (dOp rdMod (dOp rdMul (dOp rdAdd (dOp rdIx (dVar 0) (dC (.d (.int 1)))) (dC (.d (.int 1)))) (dC (.d (.int 39373)))) (dC (.d (.int 1000000007)))) (gN 4)) <|
    dSeq (dAsg (dOp rdMod (dOp rdMul (dOp rdMod (dOp rdMul (dVar 4) (dVar 4)) (dC (.d (.int 998244353)))) (dC (.d (.int 30011)))) (dC (.d (.int 998244353)))) (gN 5)) <|
    dSeq (dIf (dTest (dOp rdGt (dVar 1) (dC (.d (.int 1000000)))))
      (dRet (dOp rdMod (dOp rdAdd (dOp rdMul (dVar 5) (dC (.d (.int 1000000007)))) (dVar 4)) (dVar 1)))
      (dNext)) <|
    dRet (dOp rdMod (dOp rdDiv (dVar 5) (dC (.d (.int 7)))) (dVar 1))) D [some (.m p), some (.d (.int n)), x, none, none, none] M := by
  subst hD
  have i0 : ixW M (.m p) 0 = some (.d (.int a)) := ix_m hm rfl
  have i1 : ixW M (.m p) 1 = some (.d (.int b)) := ix_m hm rfl
  have same : Bag M p := ⟨a, b, c, ns, hm, ha, hb, hb2, hc, hns⟩
  refine ⟨_, rfl, _, _, rfl, i0, rfl, _, _, rfl, rfl, _, rfl, ?_⟩
  refine ite_b (fun h => ?_) (fun h => ?_)
  · have h0 : 0 < a := of_decide_eq_true h
    refine ⟨_, rfl, _, _, rfl, i0, rfl, _, rfl, _, _, rfl, rfl, hn, ?_⟩
    refine ⟨_, rfl, _, _, rfl, i0, rfl, _, rfl, _, _, rfl, rfl, ⟨hn, hn2⟩, ?_⟩
    refine ⟨_, rfl, _, _, _, _, rfl, rfl, hm, rfl, ?_⟩
    refine ⟨_, rfl, ?_⟩
    refine k _ _ (Int.emod_nonneg _ (by omega)) (Int.emod_lt_of_pos _ hn) ⟨a / n, b, c, ns, updM_same, Int.ediv_nonneg ha (by omega), hb, hb2, hc, hns⟩ fun q hq => updM_ne hq
  · refine ⟨_, rfl, _, _, rfl, i1, rfl, .inl ?_⟩
    refine ⟨_, _, rfl, rfl, _, _, rfl, rfl, .inl ⟨by omega, by omega⟩, _, _, rfl, rfl, (by decide : (0 : Int) < 1000000007), ?_⟩
    have f0 : 0 ≤ (b + 1) * 39373 % 1000000007 := Int.emod_nonneg _ (by decide)
    have f1 : (b + 1) * 39373 % 1000000007 < 1000000007 := Int.emod_lt_of_pos _ (by decide)
    refine ⟨_, rfl, _, rfl, _, _, rfl, rfl, .inl ⟨by omega, by omega⟩, _, _, rfl, rfl, (by decide : (0 : Int) < 998244353), ?_⟩
    have g0 : 0 ≤ (b + 1) * 39373 % 1000000007 * ((b + 1) * 39373 % 1000000007) % 998244353 := Int.emod_nonneg _ (by decide)
    have g1 : (b + 1) * 39373 % 1000000007 * ((b + 1) * 39373 % 1000000007) % 998244353 < 998244353 := Int.emod_lt_of_pos _ (by decide)
    refine ⟨_, _, rfl, rfl, .inl ⟨by omega, by omega⟩, _, _, rfl, rfl, (by decide : (0 : Int) < 998244353), ?_⟩
    have e0 : 0 ≤ (b + 1) * 39373 % 1000000007 * ((b + 1) * 39373 % 1000000007) % 998244353 * 30011 % 998244353 := Int.emod_nonneg _ (by decide)
    have e1 : (b + 1) * 39373 % 1000000007 * ((b + 1) * 39373 % 1000000007) % 998244353 * 30011 % 998244353 < 998244353 := Int.emod_lt_of_pos _ (by decide)
    refine ⟨_, rfl, _, _, rfl, rfl, _, rfl, ?_⟩
    refine ite_b (fun h => ?_) (fun h => ?_)
    · refine ⟨_, rfl, _, _, rfl, rfl, .inl ⟨by omega, by omega⟩, _, rfl, .inl ⟨_, _, rfl, rfl, _, rfl, _, _, rfl, rfl, hn, ?_⟩⟩
      exact k _ _ (Int.emod_nonneg _ (by omega)) (Int.emod_lt_of_pos _ hn) same fun q _ => rfl
    · refine ⟨_, rfl, _, _, rfl, rfl, ⟨by decide, by decide⟩, _, rfl, _, _, rfl, rfl, hn, ?_⟩
      exact k _ _ (Int.emod_nonneg _ (by omega)) (Int.emod_lt_of_pos _ hn) same fun q _ => rfl
theorem read_take1 {M : MH} {p : Addr} {n cell : Int} {a b c : Int} {ns : List Int} {D : Ed} (hm : M p = some (.lst (bagL a b c ns))) (ha : 0 ≤ a) (hb : 0 ≤ b) (hb2 : b < 2147483647) (hc : 0 ≤ c) (hcell : 0 ≤ cell)
    (k : ∀ a' b' c' M', 0 ≤ a' → 0 ≤ b' → b' < 2147483647 → 0 ≤ c' → M' p = some (.lst (bagL a' b' c' ns)) → (∀ q, q ≠ p → M' q = M q) → D.nx [some (.m p), some (.d (.int n)), some (.d (.int cell)), none, none, none] M') :
    (dSeq (dAugS (dVar 0) (dC (.d (.int 2))) (dC (.d (.int 1))) (fun i j => i + j)) <|
      dSeq (dIf (dTest (dOp rdGe (dVar 2) (dC (.d (.int 1000000000000000000)))))
        (dAsg (dVar 2) (gSet (dVar 0) (dC (.d (.int 0)))))
        (dNext)) <|
      dAsg (dOp rdMod (dOp rdAdd (dOp rdAdd (dOp rdMul (dOp rdIx (dVar 0) (dC (.d (.int 1)))) (dC (.d (.int 48271)))) (dOp rdMod (dVar 2) (dC (.d (.int 2147483647))))) (dOp rdMul (dC (.d (.int 7919))) (dOp rdIx (dVar 0) (dC (.d (.int 2)))))) (dC (.d (.int 2147483647)))) (gSet (dVar 0) (dC (.d (.int 1)))))
      D [some (.m p), some (.d (.int n)), some (.d (.int cell)), none, none, none] M := by
  refine ⟨_, rfl, _, _, _, _, _, rfl, rfl, hm, rfl, rfl, _, rfl, rfl, ?_⟩
  have m1 : updM M p (.lst (bagL a b (c + 1) ns)) p = some (.lst (bagL a b (c + 1) ns)) := updM_same
  have f1 : ∀ q, q ≠ p → updM M p (.lst (bagL a b (c + 1) ns)) q = M q := fun q hq => updM_ne hq
  show (dSeq _ _) D _ (updM M p (.lst (bagL a b (c + 1) ns)))
  generalize updM M p (.lst (bagL a b (c + 1) ns)) = M1 at m1 f1
  have fin : ∀ (a' : Int) (M2 : MH), 0 ≤ a' → M2 p = some (.lst (bagL a' b (c + 1) ns)) → (∀ q, q ≠ p → M2 q = M q) →
      dAsg (dOp rdMod (dOp rdAdd (dOp rdAdd (dOp rdMul (dOp rdIx (dVar 0) (dC (.d (.int 1)))) (dC (.d (.int 48271)))) (dOp rdMod (dVar 2) (dC (.d (.int 2147483647))))) (dOp rdMul (dC (.d (.int 7919))) (dOp rdIx (dVar 0) (dC (.d (.int 2)))))) (dC (.d (.int 2147483647)))) (gSet (dVar 0) (dC (.d (.int 1)))) D [some (.m p), some (.d (.int n)), some (.d (.int cell)), none, none, none] M2 := by
    intro a' M2 ha' m2 f2
    have i1 : ixW M2 (.m p) 1 = some (.d (.int b)) := ix_m m2 rfl
    have i2 : ixW M2 (.m p) 2 = some (.d (.int (c + 1))) := ix_m m2 rfl
    refine ⟨_, rfl, _, _, rfl, i1, rfl, _, _, rfl, rfl, .inl ⟨by omega, by omega⟩, _, rfl, _, _, rfl, rfl, (by decide : (0 : Int) < 2147483647), .inl ?_⟩
    refine ⟨_, _, rfl, rfl, _, rfl, _, _, rfl, i2, rfl, _, _, rfl, rfl, .inl ⟨by decide, by decide⟩, .inl ?_⟩
    refine ⟨_, _, rfl, rfl, _, _, rfl, rfl, (by decide : (0 : Int) < 2147483647), _, rfl, _, _, _, _, rfl, rfl, m2, rfl, ?_⟩
    exact k a' _ (c + 1) _ ha' (Int.emod_nonneg _ (by decide)) (Int.emod_lt_of_pos _ (by decide)) (by omega) updM_same fun q hq => (updM_ne hq).trans (f2 q hq)
  refine ⟨_, rfl, _, _, rfl, rfl, _, rfl, ?_⟩
  refine ite_b (fun h => ?_) (fun h => ?_)
  · refine ⟨_, rfl, _, rfl, _, _, _, _, rfl, rfl, m1, rfl, ?_⟩
    exact fin cell _ hcell updM_same fun q hq => (updM_ne hq).trans (f1 q hq)
  · exact fin a M1 ha m1 f1
theorem read_l_take : ∀ ws M Q, sp_l_take ws M Q → t_l_take { nx := fun _ M' => Q (.d .none) M', rt := Q } (startD N_l_take ws) M := by
  rintro ws M Q ⟨p, n, rfl, ⟨a, b, c, ns, hm, ha, hb, hb2, hc, hns⟩, hn, hn2, k⟩
  have i0 : ixW M (.m p) 0 = some (.d (.int a)) := ix_m hm rfl
  have i2 : ixW M (.m p) 2 = some (.d (.int c)) := ix_m hm rfl
  have i3 : ixW M (.m p) 3 = some (.d (.list (ns.map PyData.int))) := ix_m hm rfl
  refine ⟨_, rfl, _, _, rfl, i0, rfl, _, _, rfl, rfl, rfl, _, rfl, ?_⟩
  refine ite_b (fun h => ?_) (fun h => ?_)
  · refine ⟨_, rfl, _, _, rfl, i2, rfl, _, rfl, _, _, rfl, i3, rfl, _, _, rfl, rfl, rfl, _, _, rfl, rfl, _, rfl, ?_⟩
    refine ite_b (fun h => ?_) (fun h => ?_)
    · have hlt : c < ((ns.map PyData.int).length : Nat) := of_decide_eq_true h
      have hlt' : c.toNat < ns.length := by rw [List.length_map] at hlt; omega
      have ic : ixW M (.d (.list (ns.map PyData.int))) c = some (.d (.int (ns[c.toNat]'hlt'))) := by
        simp only [ixW]
        rw [atI_nn hc hlt]
        simp
      refine ⟨_, rfl, _, _, rfl, i3, rfl, _, rfl, _, _, rfl, i2, rfl, _, _, rfl, ic, rfl, ?_⟩
      refine read_take1 (cell := ns[c.toNat]'hlt') hm ha hb hb2 hc (hns _ (List.getElem_mem _)) fun a' b' c' M' h1 h2 h3 h4 h5 h6 => ?_
      exact read_take2 (x := some (.d (.int (ns[c.toNat]'hlt')))) h5 h1 h2 h3 h4 hns hn hn2 (fun r M'' r0 r1 bg fr => k r M'' r0 r1 bg fun q hq => (fr q hq).trans (h6 q hq)) rfl
    · refine read_take1 (cell := 0) hm ha hb hb2 hc (Int.le_refl 0) fun a' b' c' M' h1 h2 h3 h4 h5 h6 => ?_
      exact read_take2 (x := some (.d (.int 0))) h5 h1 h2 h3 h4 hns hn hn2 (fun r M'' r0 r1 bg fr => k r M'' r0 r1 bg fun q hq => (fr q hq).trans (h6 q hq)) rfl
  · exact read_take2 (x := none) hm ha hb hb2 hc hns hn hn2 k rfl
/-! ### comprehensions with one name -/
theorem take_fm {f : W → Option PyData} {ws : List W} {i : Nat} {w : W} (h : ws[i]? = some w) : (ws.take (i + 1)).filterMap f = (ws.take i).filterMap f ++ (f w).toList := by
  rw [List.take_add_one, h, List.filterMap_append]
  cases e : f w <;> simp [e]
/-- the element and the test change nothing: f tells the item's datum, or that it is left out -/
theorem lc_pure {tt : TTd} {te : TD} {fr : List Nat} {τ : DS} {M : MH} {Q : List PyData → MH → Prop} {ws : List W} (f : W → Option PyData) (hl : ws.length ≤ sizeLine)
    (step : ∀ w ∈ ws, ∀ P' : Option PyData → Prop, P' (f w) → tt (some w :: fr.map fun j => (τ[j]?).getD none) M fun b M3 => if b = true then te (some w :: fr.map fun j => (τ[j]?).getD none) M3 fun y M4 => ∃ d, y = .d d ∧ M4 = M ∧ P' (some d) else M3 = M ∧ P' none)
    (q : Q (ws.filterMap f) M) : ∃ P : Nat → List PyData → DS → MH → Prop, P 0 [] (lcSD 1 fr τ) M ∧
      (∀ i w acc τ M, ws[i]? = some w → P i acc τ M → acc.length < sizeLine ∧ gN 0 w τ M fun τ2 M2 => tt τ2 M2 fun b M3 => if b = true then te τ2 M3 fun y M4 => ∃ d, y = .d d ∧ P (i + 1) (acc ++ [d]) τ2 M4 else P (i + 1) acc τ2 M3) ∧
      ∀ acc τ M, P ws.length acc τ M → Q acc M := by
  let Pk : Nat → List PyData → DS → Prop := fun i acc τ' => i ≤ ws.length ∧ acc = (ws.take i).filterMap f ∧ ∃ x, τ' = x :: fr.map fun j => (τ[j]?).getD none
  refine ⟨fun i acc τ' M' => M' = M ∧ Pk i acc τ', ⟨rfl, Nat.zero_le _, rfl, none, rfl⟩, fun i w acc τ' M' hw hp => ?_, fun acc τ' M' hp => ?_⟩
  · obtain ⟨rfl, hi, rfl, x, rfl⟩ := hp
    have hlt : i < ws.length := (List.getElem?_eq_some_iff.mp hw).1
    refine ⟨?_, step w (List.mem_of_getElem? hw) (fun o => match o with
      | some d => Pk (i + 1) ((ws.take i).filterMap f ++ [d]) (some w :: fr.map fun j => (τ[j]?).getD none)
      | none => Pk (i + 1) ((ws.take i).filterMap f) (some w :: fr.map fun j => (τ[j]?).getD none)) ?_⟩
    · have h1 := List.length_filterMap_le f (ws.take i)
      rw [List.length_take] at h1
      omega
    · cases e : f w with
      | some d => exact ⟨hlt, by rw [take_fm hw, e]; rfl, _, rfl⟩
      | none => exact ⟨hlt, by rw [take_fm hw, e]; simp, _, rfl⟩
  · obtain ⟨rfl, hi, rfl, x, rfl⟩ := hp
    rw [List.take_of_length_le (Nat.le_refl _)]
    exact q
/-- the element may change the store: J holds of it, G of each datum -/
theorem lc_inv {tt : TTd} {te : TD} {fr : List Nat} {τ : DS} {M : MH} {Q : List PyData → MH → Prop} {ws : List W} (J : MH → Prop) (G : PyData → Prop) (hl : ws.length ≤ sizeLine) (j0 : J M)
    (step : ∀ w ∈ ws, ∀ M', J M' → ∀ P' : Option PyData → MH → Prop, (∀ d M'', G d → J M'' → P' (some d) M'') → (∀ M'', J M'' → P' none M'') →
      tt (some w :: fr.map fun j => (τ[j]?).getD none) M' fun b M3 => if b = true then te (some w :: fr.map fun j => (τ[j]?).getD none) M3 fun y M4 => ∃ d, y = .d d ∧ P' (some d) M4 else P' none M3)
    (q : ∀ acc M', J M' → (∀ d ∈ acc, G d) → acc.length ≤ ws.length → Q acc M') : ∃ P : Nat → List PyData → DS → MH → Prop, P 0 [] (lcSD 1 fr τ) M ∧
      (∀ i w acc τ M, ws[i]? = some w → P i acc τ M → acc.length < sizeLine ∧ gN 0 w τ M fun τ2 M2 => tt τ2 M2 fun b M3 => if b = true then te τ2 M3 fun y M4 => ∃ d, y = .d d ∧ P (i + 1) (acc ++ [d]) τ2 M4 else P (i + 1) acc τ2 M3) ∧
      ∀ acc τ M, P ws.length acc τ M → Q acc M := by
  let Pk : Nat → List PyData → DS → MH → Prop := fun i acc τ' M' => acc.length ≤ i ∧ (∀ d ∈ acc, G d) ∧ J M' ∧ ∃ x, τ' = x :: fr.map fun j => (τ[j]?).getD none
  refine ⟨Pk, ⟨Nat.le_refl _, fun d h => (nomatch h), j0, none, rfl⟩, fun i w acc τ' M' hw hp => ?_, fun acc τ' M' hp => ?_⟩
  · obtain ⟨hi, hg, hj, x, rfl⟩ := hp
    have hlt : i < ws.length := (List.getElem?_eq_some_iff.mp hw).1
    refine ⟨by omega, step w (List.mem_of_getElem? hw) M' hj (fun o M2 => match o with
      | some d => Pk (i + 1) (acc ++ [d]) (some w :: fr.map fun j => (τ[j]?).getD none) M2
      | none => Pk (i + 1) acc (some w :: fr.map fun j => (τ[j]?).getD none) M2) (fun d M2 gd j2 => ?_) fun M2 j2 => ?_⟩
    · refine ⟨by rw [List.length_append, List.length_singleton]; omega, fun d' hd' => ?_, j2, _, rfl⟩
      rcases List.mem_append.mp hd' with z | z
      · exact hg d' z
      · rw [List.mem_singleton.mp z]; exact gd
    · exact ⟨by omega, hg, j2, _, rfl⟩
  · obtain ⟨hi, hg, hj, x, rfl⟩ := hp
    exact q acc M' hj hg hi
theorem fm_map {α : Type} (g : α → W) (f : W → Option PyData) (h : α → PyData) (e : ∀ a, f (g a) = some (h a)) (l : List α) : (l.map g).filterMap f = l.map h := by
  induction l with
  | nil => rfl
  | cons a l ih => rw [List.map_cons, List.filterMap_cons, e, ih]; rfl
theorem read_l_bag : ∀ ws M Q, sp_l_bag ws M Q → t_l_bag { nx := fun _ M' => Q (.d .none) M', rt := Q } (startD N_l_bag ws) M := by
  rintro ws M Q ⟨ns, rfl, hl, k⟩
  refine ⟨_, rfl, _, rfl, _, rfl, rfl, _, rfl, ?_⟩
  have ec : cutD (ns.map PyData.int) none (some 63) = (cutD ns none (some 63)).map PyData.int := by
    simp only [cutD, List.length_map, List.map_take, List.map_drop]
  have hlen : (cutD ns none (some 63)).length ≤ ns.length := by
    simp only [cutD, List.length_take, List.length_drop]
    omega
  have h1000 : (1000 : Nat) ≤ sizeLine := by rw [sizeLine_eq]; decide
  dsimp only
  refine lc_pure (fun w => match w with
    | .d (.int n) => some (.int (if n < 0 then -n else n))
    | _ => none) ?hl (fun w hw P' hp => ?_) ?_
  case hl => rw [List.length_map, ec, List.length_map]; omega
  · rw [ec, List.map_map] at hw
    obtain ⟨n, _, rfl⟩ := List.mem_map.mp hw
    exact ⟨_, rfl, _, rfl, _, rfl, rfl, hp⟩
  · have e2 : (List.map W.d (cutD (ns.map PyData.int) none (some 63))).filterMap (fun w => match w with
        | .d (.int n) => some (PyData.int (if n < 0 then -n else n))
        | _ => none) = ((cutD ns none (some 63)).map fun n => if n < 0 then -n else n).map PyData.int := by
      rw [ec, List.map_map, fm_map (W.d ∘ PyData.int) _ (fun n => PyData.int (if n < 0 then -n else n)) (fun n => rfl), List.map_map]
      rfl
    rw [e2]
    refine ⟨by simp [sizeLine_eq], fun p hp => k p _ hp (fun q hq => updM_ne hq) ⟨0, 1234567891, 0, _, updM_same, Int.le_refl 0, by decide, by decide, Int.le_refl 0, fun n hn => ?_⟩⟩
    obtain ⟨m, _, rfl⟩ := List.mem_map.mp hn
    split <;> omega
/-- the law's start: from the handed script -/
theorem law_start {K : PySem.W.Frag} {H : Hp} {a : Addr} {ns : List Int} {sp : SpD} (hl : ns.length ≤ 63) (hO : L2.Only H) (hS : L2.SqL K H a (ns.map V.int)) (h : ∀ ns : List Int, ns.length ≤ 63 → sp [.d (.list (ns.map PyData.int))] (fun _ => none) (fun w _ => w = .d (.bool true))) :
    upSp K sp [.ref a] H (fun v _ => v = .bl true) fun _ _ _ => False := by
  refine ⟨[.d (.list (ns.map PyData.int))], fun _ => none, _, .cons ?_ .nil, fun a o z => (nomatch z), h ns hl, fun v H' w M' kp r m q => ?_⟩
  · simp only [RepW, RepD]
    refine ⟨a, _, rfl, ?_, RepA.ints ns⟩
    rcases hS with (h | h) | h
    · rcases hO a with z | ⟨ob, xs, z⟩
      · rw [h] at z; cases z
      · rw [h] at z; cases z
    · exact .inl h
    · exact .inr h
  · subst q
    simp only [RepW, RepD] at r
    exact r
end D

set_option Elab.async false
set_option linter.all false
set_option maxRecDepth 100000
set_option maxHeartbeats 4000000
namespace D
open PySem PySem.Spec PyProof.Rows L2
/-! ### how long a written datum is -/
def ascB (z : Str) : Bool := z.cps.all (· < 128)
mutual
def big : PyData → Nat
  | .none => 4
  | .bool _ => 5
  | .int _ => 2000
  | .str z => 10 * z.length + 2
  | .list ds => bigA ds + 2
  | .tuple ds => bigA ds + 3
  | .dict kvs => bigK kvs + 2
def bigA : List PyData → Nat
  | [] => 0
  | d :: ds => big d + 2 + bigA ds
def bigK : List (PyData × PyData) → Nat
  | [] => 0
  | (k, d) :: ds => big k + 2 + big d + 2 + bigK ds
end
mutual
def fineD : PyData → Bool
  | .none => true
  | .bool _ => true
  | .int i => decide (i.natAbs.log2 < 1920)
  | .str z => ascB z
  | .list ds => fineA ds
  | .tuple ds => fineA ds
  | .dict kvs => fineK kvs
def fineA : List PyData → Bool
  | [] => true
  | d :: ds => fineD d && fineA ds
def fineK : List (PyData × PyData) → Bool
  | [] => true
  | (k, d) :: ds => fineD k && fineD d && fineK ds
end
theorem listText_le : ∀ ts : List Str, (listText ts).length ≤ piled ts + 2
  | [] => by decide +kernel
  | t :: r => by
    have h := textFrom_length_pos r 1 (("[" : Str) ++ (if (0 : Nat) > 0 then ", " else "" : String) ++ t) (Nat.succ_pos 0)
    have e : ((("[" : Str) ++ (if (0 : Nat) > 0 then ", " else "" : String) ++ t)).length = 1 + t.length := by
      rw [strLen_append, strLen_append]; rfl
    have hX : (listText (t :: r)).length = (textFrom 0 "[" (t :: r)).length + 1 := by
      show (textFrom 0 "[" (t :: r) ++ "]").length = _
      rw [strLen_append]; rfl
    have h2 : (textFrom 0 "[" (t :: r)).length = (1 + t.length) + piled r := by rw [← e]; exact h
    have h3 : piled (t :: r) = t.length + 2 + piled r := by simp [piled]
    omega
theorem join_le (ts : List Str) : (Str.join ", " ts).length ≤ piled ts := by
  cases ts with
  | nil => decide +kernel
  | cons t r => have := join_length_add (t :: r) (by simp); omega
theorem tupleText_le (ts : List Str) : (tupleText ts).length ≤ piled ts + 3 := by
  unfold tupleText
  rw [strLen_append, strLen_append]
  have e1 : ((("(" : String) : Str)).length = 1 := rfl
  have e3 : (((if ts.length == 1 then ",)" else ")" : String) : Str)).length ≤ 2 := by split <;> decide
  have := join_le ts
  omega
theorem dictText_le (ts : List Str) : (dictText ts).length ≤ piled ts + 2 := by
  unfold dictText
  rw [strLen_append, strLen_append]
  have e1 : ((("{" : String) : Str)).length = 1 := rfl
  have e2 : ((("}" : String) : Str)).length = 1 := rfl
  have := join_le ts
  omega
theorem int_len {i : Int} (h : i.natAbs.log2 < 1920) : (Str.ofString (toString i)).length ≤ 2000 := by
  have e := int_text_length_le (k := 1920) (by decide) h
  rw [PySem.ofString_length]; omega
theorem repr_len {z : Str} (h : ascB z = true) : (reprText z).length ≤ 10 * z.length + 2 := StrLaws.reprText_len z fun c hc => by
  have := Array.all_eq_true_iff_forall_mem.mp h c (by simpa using hc)
  have h2 : c < 128 := by simpa using this
  omega
mutual
theorem shown_le : ∀ d : PyData, fineD d = true → d.shown.length ≤ big d
  | .none, _ => by rw [PyData.shown]; decide +kernel
  | .bool b, _ => by rw [PyData.shown]; cases b <;> decide +kernel
  | .int i, h => by rw [PyData.shown]; exact int_len (by simpa [fineD] using h)
  | .str z, h => by rw [PyData.shown, big]; exact repr_len (by simpa [fineD] using h)
  | .list ds, h => by
    have h1 := shownA_le ds (by simpa [fineD] using h)
    have h2 := listText_le (PyData.shownAll ds)
    rw [PyData.shown, big]; omega
  | .tuple ds, h => by
    have h1 := shownA_le ds (by simpa [fineD] using h)
    have h2 := tupleText_le (PyData.shownAll ds)
    rw [PyData.shown, big]; omega
  | .dict ds, h => by
    have h1 := shownK_le ds (by simpa [fineD] using h)
    have h2 := dictText_le (PyData.shownKv ds)
    rw [PyData.shown, big]; omega
theorem shownA_le : ∀ ds : List PyData, fineA ds = true → piled (PyData.shownAll ds) ≤ bigA ds
  | [], _ => by simp [PyData.shownAll, piled, bigA]
  | d :: ds, h => by
    simp only [fineA, Bool.and_eq_true] at h
    have h1 := shown_le d h.1
    have h2 := shownA_le ds h.2
    simp only [PyData.shownAll, piled_cons, bigA]
    omega
theorem shownK_le : ∀ ds : List (PyData × PyData), fineK ds = true → piled (PyData.shownKv ds) ≤ bigK ds
  | [], _ => by simp [PyData.shownKv, piled, bigK]
  | (k, d) :: ds, h => by
    simp only [fineK, Bool.and_eq_true] at h
    have h1 := shown_le k h.1.1
    have h3 := shown_le d h.1.2
    have h2 := shownK_le ds h.2
    have e : ((((": " : String) : Str))).length = 2 := rfl
    simp only [PyData.shownKv, piled_cons, bigK, strLen_append, e]
    omega
end
mutual
theorem fine_show : ∀ d : PyData, fineD d = true → d.showable = true
  | .none, _ => by simp [PyData.showable]
  | .bool b, _ => by simp [PyData.showable]
  | .int i, h => by simpa [PyData.showable, fineD] using h
  | .str z, h => by simp [PyData.showable]
  | .list ds, h => by simpa [PyData.showable] using fine_showA ds (by simpa [fineD] using h)
  | .tuple ds, h => by simpa [PyData.showable] using fine_showA ds (by simpa [fineD] using h)
  | .dict ds, h => by simpa [PyData.showable] using fine_showK ds (by simpa [fineD] using h)
theorem fine_showA : ∀ ds : List PyData, fineA ds = true → PyData.showableAll ds = true
  | [], _ => by simp [PyData.showableAll]
  | d :: ds, h => by
    simp only [fineA, Bool.and_eq_true] at h
    simp [PyData.showableAll, fine_show d h.1, fine_showA ds h.2]
theorem fine_showK : ∀ ds : List (PyData × PyData), fineK ds = true → PyData.showableKv ds = true
  | [], _ => by simp [PyData.showableKv]
  | (k, d) :: ds, h => by
    simp only [fineK, Bool.and_eq_true] at h
    simp [PyData.showableKv, fine_show k h.1.1, fine_show d h.1.2, fine_showK ds h.2]
end
theorem s16 : (1000000 : Nat) ≤ sizeLine := by rw [sizeLine_eq]; decide
/-- a datum that repr may be told of -/
theorem repr_ok {d : PyData} (h : fineD d = true) (hb : big d ≤ 1000000) (hd : d.depth ≤ 60) (hk : d.hasDict = false) : reprOk d = true := by
  have h1 := fine_show d h
  have h2 := shown_le d h
  have h3 := s16
  simp only [reprOk, h1, Bool.true_and, Bool.and_eq_true, decide_eq_true_eq, Bool.or_eq_true, Bool.not_eq_true']
  exact ⟨⟨by omega, hd⟩, .inl hk⟩
end D

set_option Elab.async false
set_option linter.all false
set_option maxRecDepth 100000
set_option maxHeartbeats 4000000
namespace D
open PySem PySem.Spec PyProof.Rows L2
/-! ### texts -/
def Asc (z : Str) : Prop := ∀ c ∈ z.cps.toList, c < 128
theorem str_len (z : Str) : z.cps.toList.length = z.length := by simp [Str.length]
theorem asc_app {x y : Str} (hx : Asc x) (hy : Asc y) : Asc (x ++ y) := by
  intro c hc
  have e : (x ++ y).cps.toList = x.cps.toList ++ y.cps.toList := by show (x.cps ++ y.cps).toList = _; simp
  rw [e] at hc
  rcases List.mem_append.mp hc with h | h
  · exact hx c h
  · exact hy c h
theorem len_app (x y : Str) : (x ++ y).length = x.length + y.length := by show (x.cps ++ y.cps).size = _; simp [Str.length]
theorem asc_slice {z : Str} (h : Asc z) (lo hi : Option Int) : Asc (Txt.slice z lo hi) := by
  unfold Txt.slice
  split
  · exact h
  · intro c hc
    have hc' : c ∈ (Builtin.Str.strSliceIndices lo hi 1 z.length).filterMap (z.cps[·]?) := by simpa using hc
    obtain ⟨i, _, e⟩ := List.mem_filterMap.mp hc'
    exact h c (by simpa using Array.mem_of_getElem? e)
theorem glue_fold (g : Array Nat) (hg : ∀ c ∈ g.toList, c < 128) : ∀ (l : List Str) (acc : Array Nat), (∀ c ∈ acc.toList, c < 128) → (∀ p ∈ l, Asc p) →
    (∀ c ∈ (l.foldl (fun acc p => acc ++ g ++ p.cps) acc).toList, c < 128) ∧ (l.foldl (fun acc p => acc ++ g ++ p.cps) acc).size = acc.size + (l.map fun p => g.size + p.length).sum
  | [], acc, ha, _ => ⟨ha, by simp⟩
  | p :: l, acc, ha, hl => by
    have h := glue_fold g hg l (acc ++ g ++ p.cps) (fun c hc => by
      simp only [Array.toList_append, List.mem_append] at hc
      rcases hc with (h | h) | h
      · exact ha c h
      · exact hg c h
      · exact hl p List.mem_cons_self c h) fun q hq => hl q (List.mem_cons_of_mem _ hq)
    refine ⟨h.1, ?_⟩
    rw [List.foldl_cons, h.2]
    simp only [Array.size_append, List.map_cons, List.sum_cons, Str.length]
    omega
theorem join_asc {sep : Str} {ys : List Str} (hs : Asc sep) (hy : ∀ y ∈ ys, Asc y) : Asc (Txt.join sep ys) ∧ (Txt.join sep ys).length ≤ (ys.map fun p => sep.length + p.length).sum := by
  cases ys with
  | nil => exact ⟨fun c hc => by simp [Txt.join, Builtin.Str.glued, Str.empty] at hc, by simp [Txt.join, Builtin.Str.glued, Str.empty, Str.length]⟩
  | cons y ys =>
    have h := glue_fold sep.cps hs ys y.cps (hy y List.mem_cons_self) fun p hp => hy p (List.mem_cons_of_mem _ hp)
    refine ⟨h.1, ?_⟩
    show (ys.foldl (fun acc p => acc ++ sep.cps ++ p.cps) y.cps).size ≤ _
    rw [h.2]
    simp only [List.map_cons, List.sum_cons, Str.length]
    omega
theorem sum_le {l : List Str} {n : Nat} (h : ∀ y ∈ l, y.length ≤ n) (k : Nat) : (l.map fun p => k + p.length).sum ≤ l.length * (k + n) := by
  induction l with
  | nil => simp
  | cons y l ih =>
    have h1 := h y List.mem_cons_self
    have h2 := ih fun z hz => h z (List.mem_cons_of_mem _ hz)
    simp only [List.map_cons, List.sum_cons, List.length_cons, Nat.add_mul, Nat.one_mul]
    omega
/-- a text of few plain signs -/
def Tx (n : Nat) (d : PyData) : Prop := ∃ z : Str, d = .str z ∧ z.length ≤ n ∧ Asc z
theorem tx_list {n : Nat} : ∀ {ds : List PyData}, (∀ d ∈ ds, Tx n d) → ∃ ys : List Str, ds = ys.map PyData.str ∧ ∀ y ∈ ys, y.length ≤ n ∧ Asc y
  | [], _ => ⟨[], rfl, fun y h => (nomatch h)⟩
  | d :: ds, h => by
    obtain ⟨z, e, h1, h2⟩ := h d List.mem_cons_self
    obtain ⟨ys, e2, h3⟩ := tx_list fun d' hd' => h d' (List.mem_cons_of_mem _ hd')
    refine ⟨z :: ys, by rw [e, e2]; rfl, fun y hy => ?_⟩
    rcases List.mem_cons.mp hy with rfl | hy
    · exact ⟨h1, h2⟩
    · exact h3 y hy
theorem asc_dec {z : Str} (h : z.cps.all (· < 128) = true) : Asc z := by
  intro c hc
  have := Array.all_eq_true_iff_forall_mem.mp h c (by simpa using hc)
  simpa using this
theorem asc_one {z : Str} {c : Nat} (h : Asc z) (hc : c ∈ z.cps.toList) : Asc ⟨#[c]⟩ := by
  intro d hd
  have : d = c := by simpa using hd
  rw [this]
  exact h c hc
/-- an item of a text at a drawn place -/
theorem ix_str_at {M : MH} {z : Str} {r : Int} (h0 : 0 ≤ r) (h1 : r < z.length) : ∃ c, ixW M (.d (.str z)) r = some (.d (.str ⟨#[c]⟩)) ∧ c ∈ z.cps.toList := by
  have hl : r < (z.cps.toList.length : Nat) := by rw [str_len]; exact h1
  refine ⟨z.cps.toList[r.toNat]'(by omega), ?_, List.getElem_mem _⟩
  simp only [ixW]
  rw [atI_nn h0 hl]
  rfl
abbrev alphaS : Str := "abcdefghijklmnopqrstuvwxyz"
theorem alphaL : alphaS.length = 26 := by decide +kernel
theorem alphaA : Asc alphaS := asc_dec (by decide +kernel)
theorem asc_b {z : Str} (h : Asc z) : ascB z = true := by
  unfold ascB
  rw [Array.all_eq_true_iff_forall_mem]
  intro c hc
  exact decide_eq_true (h c (by simpa using hc))
theorem log2_small {n : Nat} (h : n < 2 ^ 100) : n.log2 < 1920 := by
  by_cases h0 : n = 0
  · subst h0; decide
  · exact Nat.lt_of_lt_of_le ((Nat.log2_lt h0).mpr h) (by decide)
theorem few {n : Nat} (h : n ≤ 1000) : n ≤ sizeLine := by have := s16; omega
end D

set_option Elab.async false
set_option linter.all false
set_option maxRecDepth 100000
set_option maxHeartbeats 4000000
/-! A DICT WALKED: it stands still while it is walked; items, keys; sorted texts; never. -/
namespace D
open PySem PySem.Spec PyProof.Rows L2
section
variable {X : Cx} {pins : List (Addr × Obj)} {σ : St} {H H0 : Hp} {s s0 : Shared}
/-- what is known of a tracked object is put otherwise -/
theorem Inv.swap {a : Addr} {u u' : HO} (I : Inv X pins σ H s) (h : H a = some u) (n1 : ∀ xs, u ≠ .tup xs) (n2 : ∀ x, u ≠ .own x) (b1 : ∀ xs, X.H₀ a ≠ some (.tup xs)) (b2 : ∀ o v, X.H₀ a ≠ some (.frz o v)) (b3 : ∀ ps, X.H₀ a ≠ some (.tbl ps))
    (new : ObjOk X.prog X.w (upd H a u') s.heap a u') : Inv X pins σ (upd H a u') s := by
  have nn : ∀ b, H b = none → b ≠ a := fun b e z => by rw [z, h] at e; cases e
  refine ⟨I.ok, I.os, I.bare, ⟨I.base.keep, I.base.slot, fun b ob q n x => ?_, I.base.there, fun b xs q => ?_, fun b ob v q => ?_, fun b ps q => ?_⟩, I.loc, I.cell, ?_, fun x c q => ?_, fun p hp => ?_, fun b v q => ?_, I.len⟩
  · have := I.base.free b ob q n x
    rw [upd_ne (nn b this)]; exact this
  · rw [upd_ne (fun z : b = a => b1 xs (by rw [← z]; exact q))]; exact I.base.tups b xs q
  · rw [upd_ne (fun z : b = a => b2 ob v (by rw [← z]; exact q))]; exact I.base.frzs b ob v q
  · rw [upd_ne (fun z : b = a => b3 ps (by rw [← z]; exact q))]; exact I.base.tbls b ps q
  · rw [upd_ne (nn _ I.free)]; exact I.free
  · have := I.freeC x c q
    rw [upd_ne (nn c this)]; exact this
  · obtain ⟨p1, p2, p3⟩ := I.pin p hp
    exact ⟨p1, by rw [upd_ne (nn _ p2)]; exact p2, p3⟩
  · by_cases hb : b = a
    · subst hb
      rw [upd_same] at q
      cases q
      exact new
    · rw [upd_ne hb] at q
      refine (I.hok b v q).stay (fun _ _ _ q => q) (fun c r => ?_) fun c xs r => ?_
      · rw [upd_ne (fun z => by rw [z, h] at r; exact n2 _ (Option.some.inj r))]; exact r
      · rw [upd_ne (fun z => by rw [z, h] at r; exact n1 _ (Option.some.inj r))]; exact r
theorem base_of {a : Addr} {l : List (Key × V)} (I : Inv X pins σ H s) (h : H a = some (.dK l)) : (∀ xs, X.H₀ a ≠ some (.tup xs)) ∧ (∀ o v, X.H₀ a ≠ some (.frz o v)) ∧ ∀ ps, X.H₀ a ≠ some (.tbl ps) := by
  refine ⟨fun xs e => ?_, fun o v e => ?_, fun ps e => ?_⟩
  · have := I.base.tups a xs e; rw [h] at this; cases this
  · have := I.base.frzs a o v e; rw [h] at this; cases this
  · obtain ⟨m, this⟩ := I.base.tbls a ps e; rw [h] at this; cases this
theorem Inv.still {a : Addr} {l : List (Key × V)} (I : Inv X pins σ H s) (h : H a = some (.dK l)) : ∃ o, Inv X pins σ (upd H a (.frz o (.frz o (.dK l)))) s := by
  have f : Fz (.dK l) := trivial
  obtain ⟨o, ho⟩ := (I.hok a _ h).obj f
  obtain ⟨b1, b2, b3⟩ := base_of I h
  exact ⟨o, Inv.swap I h (fun _ z => nomatch z) (fun _ z => nomatch z) b1 b2 b3 ⟨ho, ho, (I.hok a _ h).anyH f⟩⟩
theorem Inv.again {σ0 : St} {a : Addr} {o : Obj} {l : List (Key × V)} (I0 : Inv X pins σ0 H0 s0) (h0 : H0 a = some (.dK l)) (I : Inv X pins σ H s) (h : H a = some (.frz o (.frz o (.dK l)))) : Inv X pins σ (upd H a (.dK l)) s := by
  have f : Fz (.dK l) := trivial
  obtain ⟨b1, b2, b3⟩ := base_of I0 h0
  exact Inv.swap I h (fun _ z => nomatch z) (fun _ z => nomatch z) b1 b2 b3 ((I.hok a _ h).2.2.anyH f)
end
/-- while e is reckoned the dict stands still -/
def tStill (t : TE) : TE := fun σ H Q => ∃ a l, H a = some (.dK l) ∧ ∀ o, t σ (upd H a (.frz o (.frz o (.dK l)))) fun v H' => H' a = some (.frz o (.frz o (.dK l))) ∧ Q v (upd H' a (.dK l))
theorem pe_still {X : Cx} {e : Expr} {t : TE} (h : PE X e t) : PE X e (tStill t) := by
  intro pins s σ H Q I ⟨a, l, ha, q⟩
  obtain ⟨o, I1⟩ := Inv.still I ha
  exact thn (h pins s σ _ _ I1 (q o)) fun v s1 ⟨x, H', I2, r, e, q2⟩ => ⟨x, _, Inv.again I ha I2 e, r, q2⟩
section
variable {K : PySem.W.Frag} {H : Hp} {a : Addr} {o : Obj} {l : List (Key × V)}
/-- nothing known of data speaks of a dict that is walked -/
theorem Kp.back (h : H a = some (.frz o (.frz o (.dK l)))) : (∀ b xs, H b = some (.tup xs) → upd H a (.dK l) b = some (.tup xs)) ∧ (∀ b ob ys, H b = some (.frz ob (.lst ys)) → upd H a (.dK l) b = some (.frz ob (.lst ys))) ∧ ∀ b ob ys, H b = some (.frz ob (.dK ys)) → upd H a (.dK l) b = some (.frz ob (.dK ys)) := by
  refine ⟨fun b xs e => ?_, fun b ob ys e => ?_, fun b ob ys e => ?_⟩ <;>
  · rw [upd_ne (fun z => by rw [z, h] at e; cases e)]; exact e
theorem SqT.back {b : Addr} {vs : List V} (h : H a = some (.frz o (.frz o (.dK l)))) (r : SqT K H b vs) : SqT K (upd H a (.dK l)) b vs := by
  rcases r with (r | ⟨ob, r⟩) | r
  · exact .inl (.inl ((Kp.back h).1 _ _ r))
  · refine .inl (.inr ⟨ob, ?_⟩)
    rw [upd_ne (fun z => by rw [z, h] at r; cases r)]; exact r
  · exact .inr r
theorem SqF.back {b : Addr} {vs : List V} (h : H a = some (.frz o (.frz o (.dK l)))) (r : SqF K H b vs) : SqF K (upd H a (.dK l)) b vs := by
  rcases r with ⟨ob, r⟩ | r
  · exact .inl ⟨ob, (Kp.back h).2.1 _ _ _ r⟩
  · exact .inr r
mutual
theorem RepD.back (h : H a = some (.frz o (.frz o (.dK l)))) : ∀ {d : PyData} {v : V}, RepD K H d v → RepD K (upd H a (.dK l)) d v
  | .none, v, r => by simp only [RepD] at r ⊢; exact r
  | .bool b, v, r => by simp only [RepD] at r ⊢; exact r
  | .int i, v, r => by simp only [RepD] at r ⊢; exact r
  | .str x, v, r => by simp only [RepD] at r ⊢; exact r
  | .list ds, v, r => by
    simp only [RepD] at r ⊢
    obtain ⟨b, vs, e, q, r⟩ := r
    exact ⟨b, vs, e, SqF.back h q, RepA.back h r⟩
  | .tuple ds, v, r => by
    simp only [RepD] at r ⊢
    obtain ⟨b, vs, e, q, r⟩ := r
    exact ⟨b, vs, e, SqT.back h q, RepA.back h r⟩
  | .dict kvs, v, r => by
    simp only [RepD] at r ⊢
    obtain ⟨b, ob, m, e, q, r⟩ := r
    exact ⟨b, ob, m, e, (Kp.back h).2.2 _ _ _ q, RepK.back h r⟩
theorem RepA.back (h : H a = some (.frz o (.frz o (.dK l)))) : ∀ {ds : List PyData} {vs : List V}, RepA K H ds vs → RepA K (upd H a (.dK l)) ds vs
  | [], vs, r => by simp only [RepA] at r ⊢; exact r
  | d :: ds, vs, r => by
    simp only [RepA] at r ⊢
    obtain ⟨v, q, e, h1, h2⟩ := r
    exact ⟨v, q, e, RepD.back h h1, RepA.back h h2⟩
theorem RepK.back (h : H a = some (.frz o (.frz o (.dK l)))) : ∀ {ds : List (PyData × PyData)} {m : List (Key × V)}, RepK K H ds m → RepK K (upd H a (.dK l)) ds m
  | [], m, r => by simp only [RepK] at r ⊢; exact r
  | (key, d) :: ds, m, r => by
    simp only [RepK] at r ⊢
    obtain ⟨k', v, q, e, ek, h1, h2⟩ := r
    exact ⟨k', v, q, e, ek, RepD.back h h1, RepK.back h h2⟩
end
theorem RepW.back (h : H a = some (.frz o (.frz o (.dK l)))) : ∀ {w : W} {v : V}, RepW K H w v → RepW K (upd H a (.dK l)) w v
  | .d _, _, r => RepD.back h r
  | .m _, _, r => r
  | .t _, _, r => r
theorem MAbs.back {M : MH} {kvs : List (Key × W)} (h : H a = some (.frz o (.frz o (.dK l)))) (m : MAbs K H M) (e : M a = some (.fdic kvs)) : MAbs K (upd H a (.dK l)) (updM M a (.dic kvs)) := fun b mo q => by
  by_cases hb : b = a
  · subst hb
    rw [updM_same] at q
    cases q
    obtain ⟨o', l', e', pr⟩ := m _ _ e
    rw [h] at e'
    cases e'
    exact ⟨l, upd_same, Paired.mapP pr fun p q z => ⟨z.1, RepW.back h z.2⟩⟩
  · rw [updM_ne hb] at q
    have r := m b mo q
    cases mo with
    | lst ws => obtain ⟨vs, e, r⟩ := r; exact ⟨vs, by rw [upd_ne hb]; exact e, Paired.mapP r fun _ _ z => RepW.back h z⟩
    | dic kvs => obtain ⟨l, e, r⟩ := r; exact ⟨l, by rw [upd_ne hb]; exact e, Paired.mapP r fun p q z => ⟨z.1, RepW.back h z.2⟩⟩
    | dct kvs => obtain ⟨l, e, r⟩ := r; exact ⟨l, by rw [upd_ne hb]; exact e, Paired.mapP r fun p q z => ⟨z.1, RepW.back h z.2⟩⟩
    | fdic kvs => obtain ⟨o, l, e, r⟩ := r; exact ⟨o, l, by rw [upd_ne hb]; exact e, Paired.mapP r fun p q z => ⟨z.1, RepW.back h z.2⟩⟩
    | ins C fs => obtain ⟨dx, l, e, r⟩ := r; exact ⟨dx, l, by rw [upd_ne hb]; exact e, Paired.mapP r fun p q z => ⟨z.1, RepW.back h z.2⟩⟩
end
def dStill (t : TD) (τ : DS) (M : MH) (Q : QD) : Prop := ∃ a kvs, M a = some (.dic kvs) ∧ t τ (updM M a (.fdic kvs)) fun v M' => M' a = some (.fdic kvs) ∧ Q v (updM M' a (.dic kvs))
theorem pd_still {X : Cx} {e : Expr} {t : TD} (h : PD X e t) : PD X e (dStill t) := pe_w (pe_still h) fun σ H Q ⟨τ, M, Qd, A, ⟨a, kvs, hm, q⟩, k⟩ => by
  obtain ⟨l, e, pr⟩ := A.mem _ _ hm
  refine ⟨a, l, e, fun o => ?_⟩
  have kp : Kp H (upd H a (.frz o (.frz o (.dK l)))) := Kp.set e (fun _ z => nomatch z) (fun _ _ z => nomatch z)
  have m1 : MAbs X.K (upd H a (.frz o (.frz o (.dK l)))) (updM M a (.fdic kvs)) := A.mem.put (mo := .fdic kvs) kp ⟨o, l, upd_same, Paired.mapP pr fun p q z => ⟨z.1, z.2.keep kp⟩⟩
  refine ⟨τ, _, _, A.go kp m1, q, fun v H' w M' kp' r' m' ⟨h1, q1⟩ => ?_⟩
  have e' := kp'.frz a o _ upd_same
  refine ⟨e', k _ _ w _ ⟨fun b xs z => ?_, fun b ob u z => ?_⟩ (RepW.back e' r') (MAbs.back e' m' h1) q1⟩
  · have hb : b ≠ a := fun y => by rw [y, e] at z; cases z
    rw [upd_ne hb]
    exact kp'.tup b xs (by rw [upd_ne hb]; exact z)
  · have hb : b ≠ a := fun y => by rw [y, e] at z; cases z
    rw [upd_ne hb]
    exact kp'.frz b ob u (by rw [upd_ne hb]; exact z)
/-- what is never reached -/
def dNever (_ : DS) (_ : MH) (_ : QD) : Prop := False
theorem pd_never {X : Cx} {e : Expr} : PD X e dNever := fun pins s σ H Q I ⟨τ, M, Qd, A, h, k⟩ => h.elim
def dNeverS (_ : Ed) (_ : DS) (_ : MH) : Prop := False
theorem psd_never {X : Cx} {st : Stmt} : PSd X st dNeverS := fun pins s σ H D I ⟨τ, M, Dd, A, h, _⟩ => h.elim
end D

set_option Elab.async false
set_option linter.all false
set_option maxRecDepth 100000
set_option maxHeartbeats 4000000
/-! SOURCES: d.items(), d; sorted texts. -/
namespace D
open PySem PySem.Spec PyProof.Rows L2
section
variable {X : Cx} {pins : List (Addr × Obj)} {σ : St} {H : Hp} {s : Shared}
/-- a tuple that was not tracked is tracked -/
theorem Inv.trackT {D : Addr} {ys : List V} {us : List Value} {n : Nat} (I : Inv X pins σ H s) (e : s.heap.get? D = some { cls := .type "tuple", data := .seq us.toArray n }) (hn : H D = none) (hv : Vals ys us) (hz : ys.length ≤ sizeLine)
    (h0 : D ∈ X.ex ∨ X.s₀.heap.objs.size ≤ D) (hL : D ≠ X.env.locals) (hc : ∀ x c, X.env.cells.lookup x = some c → c ≠ D) (hp : ∀ p ∈ X.pn ++ pins, p.1 ≠ D) : Inv X pins σ (upd H D (.tup ys)) s := by
  have ne : ∀ b u, H b = some u → b ≠ D := fun b u q => ne_of_none q hn
  refine I.step (h' := s.heap) (g' := s.gens) (d' := s.drawn) (t' := s.toks) (ch := [D]) (fun b hb => ?_) (fun b o _ _ _ q _ => q) (fun b o _ _ _ q _ => ⟨o.slots, q⟩) (fun b o hb q n => ?_) (fun b o _ q => ⟨o, q⟩)
    (fun b xs q => by rw [upd_ne (ne b _ q)]; exact q) (fun b o u q => by rw [upd_ne (ne b _ q)]; exact q) (fun b ps q => ⟨#[], by rw [upd_ne (ne b _ q), q]; simp⟩) (fun m hm => hm) (fun b u q => ?_) I.bare
  · have e : b = D := by simpa using hb
    subst e
    exact ⟨h0, hL, hc, hp⟩
  · rw [upd_ne (fun z => hb (by simp [z]))]; exact n
  · by_cases hb : b = D
    · subst hb
      rw [upd_same] at q
      cases q
      exact ⟨hz, us, hv, ⟨_, e, rfl, n, rfl⟩⟩
    · rw [upd_ne hb] at q
      exact (I.hok b u q).stay (fun _ _ _ q => q) (fun c r => by rw [upd_ne (ne c _ r)]; exact r) fun c xs r => by rw [upd_ne (ne c _ r)]; exact r
end
abbrev stillH (o : Obj) (l : List (Key × V)) : HO := .frz o (.frz o (.dK l))
theorem still_at {P : Program} {w : World} {H : Hp} {h : Heap} {a : Addr} {o : Obj} {l : List (Key × V)} (ok : HOk P w H h) (e : H a = some (stillH o l)) : (a == sysModules) = false ∧ ∃ vs es ep, KV l vs ∧ o.data = .dict es ep ∧ h.DictAt (mixKind P w) a vs ep := by
  obtain ⟨ho, _, z, hd, vs, rel, o', es, ep, h1, h2, h3, h4⟩ := ok a _ e
  rw [ho] at h1
  cases h1
  exact ⟨hd, vs, es, ep, rel, h3, o, es, ho, h2, h3, h4⟩
/-- the items of a dict that stands still -/
def Itd (a : Addr) (o : Obj) (l : List (Key × V)) : It :=
  ⟨fun i H => H a = some (stillH o l) ∧ i < l.length, fun i H x H' => ∃ T kv, l[i]? = some kv ∧ H T = none ∧ x = .ref T ∧ H' = upd H T (.tup [kV kv.1, kv.2]), fun i H => H a = some (stillH o l) ∧ l.length ≤ i⟩
def Itk (a : Addr) (o : Obj) (l : List (Key × V)) : It :=
  ⟨fun i H => H a = some (stillH o l) ∧ i < l.length, fun i H x H' => H' = H ∧ ∃ kv, l[i]? = some kv ∧ x = kV kv.1, fun i H => H a = some (stillH o l) ∧ l.length ≤ i⟩
theorem kv_at {κ : Type} [DecidableEq κ] {l : List (κ × V)} {vs : List (κ × Value)} (r : KV l vs) {i : Nat} (h : i < l.length) : ∃ kv k v, l[i]? = some kv ∧ vs[i]? = some (k, v) ∧ kv.1 = k ∧ RelV kv.2 v := by
  unfold KV at r
  induction r generalizing i with
  | nil => simp at h
  | @cons p q ps qs hp t ih =>
    cases i with
    | zero => exact ⟨p, q.1, q.2, rfl, rfl, hp.1, hp.2⟩
    | succ i =>
      obtain ⟨kv, k, v, e1, e2, e3, e4⟩ := ih (i := i) (by simpa using h)
      exact ⟨kv, k, v, by simpa using e1, by simpa using e2, e3, e4⟩
theorem kV_rel {P : Program} {w : World} {k : Key} {u : Value} (h : (mixKind P w).is k u = true) : RelV (kV k) u := by
  cases k with
  | inl i =>
    have h' : Value.isInt i u = true := h
    unfold Value.isInt at h'
    split at h'
    · rename_i j t
      have : j = i := by simpa using h'
      subst this
      exact ⟨t, rfl⟩
    · cases h'
  | inr x =>
    have h' : Value.isStrOf x u = true := h
    unfold Value.isStrOf at h'
    split at h'
    · rename_i j t
      have : j = x := by simpa using h'
      subst this
      exact ⟨t, rfl⟩
    · cases h'
theorem turn_ditems {P : Program} {w : World} {K : PySem.W.Frag} {elts : List Expr} {x1 : Nat} {tpos : Pos} (a it : Addr) (o : Obj) (l : List (Key × V)) (es : Array DictEntry) (ep : Nat) (ho : o.data = .dict es ep) :
    Turn P w K (.Tuple elts x1 tpos) (Itd a o l) [it] it (fun i h => ∃ ok ov, IsItemIter h it a i l.length ep ok ov) where
  mem := by simp
  obj := fun i h st b hb => by
    have e : b = it := by simpa using hb
    subst e
    obtain ⟨ok, ov, st⟩ := st
    exact ⟨_, st, fun v z => by cases z⟩
  keep := fun i h h' ⟨ok, ov, st⟩ k => ⟨ok, ov, k it (by simp) _ st⟩
  item := by
    intro X hP hw hK hc i pins s σ H E I hf ⟨ok, ov, st⟩ ⟨hg, hi⟩
    subst hP hw hK
    obtain ⟨f0, f1, f2, f3, f4, f5⟩ := hf it (by simp)
    obtain ⟨hd, vs, es', ep', rel, ho', da⟩ := still_at I.hok hg
    rw [ho] at ho'
    cases ho'
    obtain ⟨kv, k, v, e1, e2, e3, e4⟩ := kv_at rel hi
    have hl : l.length = vs.length := rel.length
    rw [hl] at st
    refine wpAny_pyNext_items_item st da e2 fun key h' hk st' ht hsz kp => ?_
    refine ⟨_, rfl, wpAny_letOwnedTupleGo_items st' fun h'' st'' sb => ?_⟩
    have T := I.fpOk (Nat.le_refl _) (I.hok.fresh (Nat.le_refl _))
    obtain ⟨t0, t1, t2, t3, t4, t5⟩ := T
    have hit : it < s.heap.objs.size := Heap.lt_size st
    have nT : s.heap.objs.size ≠ it := Nat.ne_of_gt hit
    have I1 : Inv X pins σ H { s with heap := h'' } := I.turned (t' := s.toks) (fun b ob hb e => (sb.2 b hb).trans (kp b ob hb e)) f0 f1 f3 f4 f5
    have eT : h''.get? s.heap.objs.size = some { cls := .type "tuple", data := .seq #[key, v] } := (sb.2 _ nT).trans ht
    have I2 := Inv.trackT (us := [key, v]) (ys := [kV kv.1, kv.2]) I1 eT t0 (.cons (by rw [e3]; exact kV_rel hk) (.cons e4 .nil)) (by simp; have := s16; omega) t3 t1 t4 t5
    refine ⟨.ref s.heap.objs.size, _, I2, rfl, ⟨_, kv, e1, t0, rfl, rfl⟩, ⟨_, _, by rw [hl]; exact st''⟩, fun b hb => ?_⟩
    have e : b = it := by simpa using hb
    subst e
    rw [upd_ne nT.symm]
    exact f0
  done := by
    intro X hP hw hK hc i pins s σ H E I hf ⟨ok, ov, st⟩ ⟨hg, hi⟩
    subst hP hw hK
    obtain ⟨f0, f1, f2, f3, f4, f5⟩ := hf it (by simp)
    obtain ⟨hd, vs, es', ep', rel, ho', da⟩ := still_at I.hok hg
    rw [ho] at ho'
    cases ho'
    have hl : l.length = vs.length := rel.length
    rw [hl] at st hi
    exact wpAny_pyNext_items_end (I.ok.hd hc) st da (List.getElem?_eq_none hi) fun h' eb => ⟨rfl, I.turned (t' := s.toks) (fun b o hb e => eb b o hb e) f0 f1 f3 f4 f5⟩
  self := fun _ _ _ _ _ ⟨ok, ov, st⟩ h => PySem.W.kcp_self st h
theorem turn_dkeys {P : Program} {w : World} {K : PySem.W.Frag} {tg : Expr} (a it : Addr) (o : Obj) (l : List (Key × V)) (es : Array DictEntry) (ep : Nat) (ho : o.data = .dict es ep) :
    Turn P w K tg (Itk a o l) [it] it (fun i h => h.IsKeyIter it a i l.length ep) where
  mem := by simp
  obj := fun i h st b hb => by
    have e : b = it := by simpa using hb
    subst e
    obtain ⟨o, e, c, d⟩ := st
    exact ⟨o, e, fun v z => by rw [d] at z; cases z⟩
  keep := fun i h h' ⟨o, e, c, d⟩ k => ⟨o, k it (by simp) _ e, c, d⟩
  item := by
    intro X hP hw hK hc i pins s σ H E I hf st ⟨hg, hi⟩
    subst hP hw hK
    obtain ⟨f0, f1, f2, f3, f4, f5⟩ := hf it (by simp)
    obtain ⟨hd, vs, es', ep', rel, ho', da⟩ := still_at I.hok hg
    rw [ho] at ho'
    cases ho'
    obtain ⟨kv, k, v, e1, e2, e3, e4⟩ := kv_at rel hi
    have hl : l.length = vs.length := rel.length
    rw [hl] at st
    refine wpAny_pyNext_dict_item st da e2 fun key h' hk st' sb => ?_
    have I1 : Inv X pins σ H { s with heap := h' } := I.turned (t' := s.toks) (fun b o hb e => (sb.2 b hb).trans e) f0 f1 f3 f4 f5
    obtain ⟨ob, e, c, d⟩ := id st'
    exact ⟨_, rfl, go_of (s := { s with heap := h' }) e c d (by decide) ⟨kV kv.1, H, I1, by rw [e3]; exact kV_rel hk, ⟨rfl, kv, e1, rfl⟩, by rw [hl]; exact st', fun b hb => (hf b hb).1⟩⟩
  done := by
    intro X hP hw hK hc i pins s σ H E I hf st ⟨hg, hi⟩
    subst hP hw hK
    obtain ⟨f0, f1, f2, f3, f4, f5⟩ := hf it (by simp)
    obtain ⟨hd, vs, es', ep', rel, ho', da⟩ := still_at I.hok hg
    rw [ho] at ho'
    cases ho'
    have hl : l.length = vs.length := rel.length
    rw [hl] at st hi
    exact wpAny_pyNext_dict_end (I.ok.hd hc) st da (List.getElem?_eq_none hi) fun h' eb => ⟨rfl, I.turned (t' := s.toks) (fun b o hb e => eb b o hb e) f0 f1 f3 f4 f5⟩
  self := fun _ _ _ _ _ st h => wpAny_pyIter_keyiter st h
/-! ### sources -/
section
variable {X : Cx} {tg o : Expr} {apos cpos : Pos} {td : TE}
def iDItems (td : TE) : TI := fun σ H R => td σ H fun x H1 => ∃ a o l, x = .ref a ∧ H1 a = some (stillH o l) ∧ R (Itd a o l) H1
theorem pi_ditems {elts : List Expr} {x1 : Nat} {tpos : Pos} (ho : PE X o td) (hbase : attributeBase o "items" X.env (eval o X.env) = eval o X.env := by rfl) (hline : (apos.endLine == cpos.line) = true := by rfl) :
    PI X (.Tuple elts x1 tpos) (.Call (.Attribute o "items" apos) [] [] cpos) (iDItems td) := by
  intro pins s σ H R I h
  refine wpAny_Call_method0_late hbase hline (thn (ho pins s σ H _ I h) fun v s1 ⟨x, H1, I1, r1, a, ob, l, ex, hg, q⟩ => ?_)
  subst ex
  cases r1
  obtain ⟨hd, vs, es, ep, rel, hdat, da⟩ := still_at I1.hok hg
  have dd : s1.heap.DictOf (mixKind X.prog X.w) a vs := let ⟨o, es, h⟩ := da; ⟨o, es, ep, h⟩
  have hnd : ∀ b, Value.ref a = .ref b → ∃ ob, s1.heap.get? b = some ob ∧ ob.dict = none := fun b e => by
    cases e
    obtain ⟨oo, es', h1, h2, _⟩ := da
    exact ⟨oo, h1, h2.2.1⟩
  refine ⟨"dict", "dict.items", PySem.F.plainAttrs_dict, PySem.F.slot_dict_items, PySem.F.type_dict_items, dd.typeIs, hnd, Calls.callWith_builtin rfl (PySem.evalArgs_none ?_)⟩
  refine call_meetsIn PySem.F.slot_dict_items dd.typeIs PySem.F.entry_dict_items (PySem.F.args_dict_items_1 _) (meets_dict_items (mixKind X.prog X.w) a hd) ⟨⟨vs, dd⟩, ?_⟩
  have I2 : Inv X pins σ H1 { s1 with heap := s1.heap.push { cls := .type "dict_items", data := .fields #[.ref a] } } := I1.kept (t' := s1.toks) fun b o e => Heap.get?_push_of_some _ e
  obtain ⟨_, vs2, es2, ep2, rel2, hdat2, da2⟩ := still_at I2.hok hg
  rw [hdat] at hdat2
  cases hdat2
  refine wpAny_pyIter_items ⟨_, Heap.get?_push_size _ rfl, rfl, rfl⟩ da2 ?_
  refine ⟨_, [_], _, _, H1, rfl, I2.kept (t' := s1.toks) fun b o e => Heap.get?_push_of_some _ e, turn_ditems a _ ob l es ep hdat, ⟨.none, .none, ?_⟩, fun b hb => ?_, q⟩
  · have := Heap.get?_push_size (s1.heap.push { cls := .type "dict_items", data := .fields #[.ref a] }) (o := { cls := .type "dict_itemiterator", data := .fields #[.none, .bool false, .ref a, .int 0 0, .int (vs2.length : Nat) 0, .int (ep : Nat) 0, .none, .none] }) rfl
    rw [rel2.length]
    exact this
  · rw [List.mem_singleton] at hb
    rw [hb]
    exact I2.fpOk (Nat.le_refl _) (I2.hok.fresh (Nat.le_refl _))
def iDKeys (td : TE) : TI := fun σ H R => td σ H fun x H1 => ∃ a o l, x = .ref a ∧ H1 a = some (stillH o l) ∧ R (Itk a o l) H1
theorem pi_dkeys (ho : PE X o td) : PI X tg o (iDKeys td) := by
  intro pins s σ H R I h
  refine thn (ho pins s σ H _ I h) fun v s1 ⟨x, H1, I1, r1, a, ob, l, ex, hg, q⟩ => ?_
  subst ex
  cases r1
  obtain ⟨hd, vs, es, ep, rel, hdat, da⟩ := still_at I1.hok hg
  refine wpAny_pyIter_dict hd da ?_
  refine ⟨_, [_], _, _, H1, rfl, I1.kept (t' := s1.toks) fun b o e => Heap.get?_push_of_some _ e, turn_dkeys a _ ob l es ep hdat, ⟨_, Heap.get?_push_size _ rfl, rfl, ?_⟩, fun b hb => ?_, q⟩
  · rw [rel.length]; rfl
  · rw [List.mem_singleton] at hb
    rw [hb]
    exact I1.fpOk (Nat.le_refl _) (I1.hok.fresh (Nat.le_refl _))
end
section
variable {X : Cx} {K : PySem.W.Frag} {tg o : Expr} {apos cpos : Pos} {td : TD}
/-- (key, value) of each, in order; the values data -/
def pairsW (kds : List (Key × PyData)) : List W := kds.map fun p => .d (.tuple [keyD p.1, p.2])
def keysOfW (kds : List (Key × PyData)) : List W := kds.map fun p => kW p.1
def dataKV (kds : List (Key × PyData)) : List (Key × W) := kds.map fun p => (p.1, .d p.2)
theorem pr_get {H : Hp} : ∀ {kds : List (Key × PyData)} {l : List (Key × V)}, Paired (fun (p : Key × W) (q : Key × V) => p.1 = q.1 ∧ RepW K H p.2 q.2) (dataKV kds) l → l.length = kds.length ∧ ∀ (i : Nat) kv, l[i]? = some kv → ∃ p, kds[i]? = some p ∧ p.1 = kv.1 ∧ RepD K H p.2 kv.2
  | [], l, h => by
    cases h
    exact ⟨rfl, fun i kv e => by simp at e⟩
  | p :: kds, l, h => by
    cases h with
    | cons r t =>
      obtain ⟨h1, h2⟩ := pr_get t
      refine ⟨by simp [h1], fun i kv e => ?_⟩
      cases i with
      | zero =>
        simp at e
        subst e
        exact ⟨p, rfl, r.1, r.2⟩
      | succ i =>
        obtain ⟨p', e1, e2⟩ := h2 i kv (by simpa using e)
        exact ⟨p', by simpa using e1, e2⟩
def dDItems (td : TD) (τ : DS) (M : MH) (R : List W → MH → Prop) : Prop := td τ M fun w M1 => ∃ a kds, w = .m a ∧ M1 a = some (.fdic (dataKV kds)) ∧ R (pairsW kds) M1
theorem pid_ditems {elts : List Expr} {x1 : Nat} {tpos : Pos} (ho : PD X o td) (hbase : attributeBase o "items" X.env (eval o X.env) = eval o X.env := by rfl) (hline : (apos.endLine == cpos.line) = true := by rfl) :
    PId X (.Tuple elts x1 tpos) (.Call (.Attribute o "items" apos) [] [] cpos) (dDItems td) := pi_w (pi_ditems ho hbase hline) fun σ H R ⟨τ, M, Rd, A, h, k⟩ => by
  refine ⟨τ, M, _, A, h, fun v H1 w M1 kp r m ⟨a, kds, ew, hm, q⟩ => ?_⟩
  subst ew
  obtain ⟨ob, l, e, pr⟩ := m _ _ hm
  obtain ⟨hlen, hget⟩ := pr_get pr
  refine ⟨a, ob, l, r, e, k _ H1 _ M1 kp m (fun H2 kp2 i => ?_) q⟩
  have hlw : (pairsW kds).length = l.length := by rw [hlen]; simp [pairsW]
  have e2 := kp2.frz a ob _ e
  refine ⟨fun hi => ⟨e2, by omega⟩, fun hi => ⟨e2, by omega⟩, fun x H' hi ⟨T, kv, hkv, hT, ex, eH⟩ => ?_⟩
  subst ex eH
  obtain ⟨p, e3, e4, e5⟩ := hget i kv hkv
  have kpn : Kp H2 (upd H2 T (.tup [kV kv.1, kv.2])) := Kp.new hT
  refine ⟨kpn, fun M m => m.new hT, .d (.tuple [keyD p.1, p.2]), by simp [pairsW, e3], ?_⟩
  simp only [RepW, RepD, RepA]
  refine ⟨T, _, rfl, .inl (.inl upd_same), _, _, rfl, ?_, _, _, rfl, (e5.keep kp2).keep kpn, rfl⟩
  rw [e4]
  cases kv.1 <;> simp [keyD, kV, RepD]
def dDKeys (td : TD) (τ : DS) (M : MH) (R : List W → MH → Prop) : Prop := td τ M fun w M1 => ∃ a kds, w = .m a ∧ M1 a = some (.fdic (dataKV kds)) ∧ R (keysOfW kds) M1
theorem pid_dkeys (ho : PD X o td) : PId X tg o (dDKeys td) := pi_w (pi_dkeys ho) fun σ H R ⟨τ, M, Rd, A, h, k⟩ => by
  refine ⟨τ, M, _, A, h, fun v H1 w M1 kp r m ⟨a, kds, ew, hm, q⟩ => ?_⟩
  subst ew
  obtain ⟨ob, l, e, pr⟩ := m _ _ hm
  obtain ⟨hlen, hget⟩ := pr_get pr
  refine ⟨a, ob, l, r, e, k _ H1 _ M1 kp m (fun H2 kp2 i => ?_) q⟩
  have hlw : (keysOfW kds).length = l.length := by rw [hlen]; simp [keysOfW]
  have e2 := kp2.frz a ob _ e
  refine ⟨fun hi => ⟨e2, by omega⟩, fun hi => ⟨e2, by omega⟩, fun x H' hi ⟨eH, kv, hkv, ex⟩ => ?_⟩
  subst ex eH
  obtain ⟨p, e3, e4, e5⟩ := hget i kv hkv
  refine ⟨Kp.refl _, fun M m => m, kW p.1, by simp [keysOfW, e3], ?_⟩
  rw [e4]
  cases kv.1 <;> simp [kW, keyD, kV, RepW, RepD]
end
/-! ### sorted texts -/
theorem strs_vals : ∀ {zs : List Str} {its : List Value}, Vals (zs.map V.str) its → StrsAre its zs
  | [], its, h => by cases h; exact .nil
  | z :: zs, its, h => by
    cases h with
    | cons r t =>
      obtain ⟨tk, e⟩ := (show ∃ t, _ = Value.str z t from r)
      subst e
      exact .cons z tk (strs_vals t)
theorem vals_strs : ∀ {zs : List Str} {its : List Value}, StrsAre its zs → Vals (zs.map V.str) its
  | _, _, .nil => .nil
  | _, _, .cons y t h => .cons ⟨t, rfl⟩ (vals_strs h)
theorem bb_sorted : bootBuiltins "sorted" = some (.builtin "sorted") := by decide +kernel
section
variable {X : Cx} {K : PySem.W.Frag}
theorem call_sortedS : CallR X (.builtin "sorted") (fun xs H Q => ∃ p zs, xs = [.ref p] ∧ SqL X.K H p (zs.map V.str) ∧ zs.length < 64 ∧ ∀ zs', zs'.Perm zs → sortedS zs' = true → ∀ l, H l = none → Q (.ref l) (upd H l (.lst (zs'.map V.str)))) := by
  intro pins s σ H xs us Q I r h
  obtain ⟨p, zs, rfl, hq, hz, q⟩ := h
  obtain ⟨u, rfl, rx⟩ := vals1 r
  cases rx
  obtain ⟨its, rv, pl, _⟩ := I.list hq
  have hl := rv.length
  rw [List.length_map] at hl
  refine sorted_strs pl.isList (strs_vals rv) (by omega) fun out zs' hs hp hso => ?_
  obtain ⟨n, e⟩ := sortedAll_at s.heap its out
  have hfr : H (s.heap.objs.size + 1) = none := I.hok.fresh (Nat.le_succ _)
  refine ⟨.ref _, _, I.laid (a := s.heap.objs.size + 1) (o := .lst (zs'.map V.str)) (t' := s.toks) (fun b o z => sortedAll_old z) (Nat.le_succ _) ⟨?_, out.toList, n, vals_strs hs, ?_⟩, rfl, q zs' hp hso _ hfr⟩
  · rw [List.length_map, hp.length_eq]
    have := s16
    omega
  · simpa using e
def rdSortS (ws : List W) (M : MH) (Q : QD) : Prop := ∃ w zs, ws = [w] ∧ LstW M w (zs.map PyData.str) ∧ zs.length < 64 ∧ ∀ zs', zs'.Perm zs → sortedS zs' = true → ∀ p, M p = none → Q (.m p) (updM M p (.lst (strsW zs')))
theorem repA_strs {H : Hp} : ∀ {zs : List Str} {vs : List V}, RepA K H (zs.map PyData.str) vs → vs = zs.map V.str
  | [], vs, h => by simpa [RepA] using h
  | z :: zs, vs, h => by
    simp only [List.map_cons, RepA] at h
    obtain ⟨v, r, e, h1, h2⟩ := h
    simp only [RepD] at h1
    rw [e, h1, repA_strs h2]
    rfl
theorem reps_strs {H : Hp} : ∀ (zs : List Str), RepWs K H (strsW zs) (zs.map V.str)
  | [] => .nil
  | z :: zs => .cons (by simp [RepW, RepD]) (reps_strs zs)
theorem cd_sortS : CallD K (fun xs H Q => ∃ p zs, xs = [.ref p] ∧ SqL K H p (zs.map V.str) ∧ zs.length < 64 ∧ ∀ zs', zs'.Perm zs → sortedS zs' = true → ∀ l, H l = none → Q (.ref l) (upd H l (.lst (zs'.map V.str)))) rdSortS := by
  intro vs H ws M Qd Q r m ⟨w, zs, e, g, hz, q⟩ k
  subst e
  obtain ⟨v, e1, r1⟩ := repWs1 r
  obtain ⟨p, ys, ev, hs, ra⟩ := g.sound r1 m
  have ey := repA_strs ra
  subst ev ey
  refine ⟨p, zs, e1, hs, hz, fun zs' h1 h2 l hl => ?_⟩
  have kp : Kp H (upd H l (.lst (zs'.map V.str))) := Kp.new hl
  exact k _ _ (.m l) _ kp rfl (m.put (mo := .lst (strsW zs')) kp ⟨_, upd_same, reps_strs zs'⟩) (q zs' h1 h2 l (m.free hl))
end
end D

set_option Elab.async false
set_option linter.all false
set_option maxRecDepth 100000
set_option maxHeartbeats 4000000
namespace D
open PySem PySem.Spec PyProof.Rows L2
section
variable {X : Cx} {K : PySem.W.Frag}
theorem call_isiT : CallR X (.builtin "isinstance") (fun xs H Q => ∃ x d T, xs = [x, .ty T] ∧ RepT X.K H d x ∧ Ty6 T ∧ Q (.bl (isiD d T)) H) := by
  intro pins s σ H xs us Q I r h
  obtain ⟨x, d, T, rfl, rd, h6, q⟩ := h
  rcases rd with rd | ⟨a, vs, ds, rfl, rfl, ha, ra⟩
  · exact call_isiD pins s σ H _ us Q I r ⟨x, d, T, rfl, rd, h6, q⟩
  obtain ⟨u, w', rfl, rx, ry⟩ := vals2 r
  cases (show w' = Value.type T from ry)
  have e := isi_kit (K := X.K) (.list ds) h6
  have fin : ∀ tk, EP X pins σ Q (.bool (isiD (.list ds) T)) { s with toks := tk } := fun tk => ⟨.bl _, H, I.tok _, rfl, q⟩
  generalize isiD (.list ds) T = b at e fin
  cases (show u = Value.ref a from rx)
  obtain ⟨its, rv, ⟨o, n, e1, e2, e3, e4⟩, hz⟩ := I.list (.inl (.inl ha))
  exact PySem.W.kia_one PySem.W.kitx_list I.kIn ⟨_, e1, e2⟩ e (fun z => nomatch z) fin
def rdIsiT (ws : List W) (M : MH) (Q : QD) : Prop := ∃ w d T, ws = [w, .t T] ∧ DatW M w d ∧ Ty6 T ∧ Q (.d (.bool (isiD d T))) M
theorem cd_isiT : CallD K (fun xs H Q => ∃ x d T, xs = [x, .ty T] ∧ RepT K H d x ∧ Ty6 T ∧ Q (.bl (isiD d T)) H) rdIsiT := by
  intro vs H ws M Qd Q r m ⟨w, d, T, e, g, h6, q⟩ k
  subst e
  obtain ⟨v, v', e1, r1, r2⟩ := repWs2 r
  simp only [RepW] at r2
  subst r2
  exact ⟨v, d, T, e1, g.sound r1 m, h6, k _ H (.d (.bool _)) M (Kp.refl H) (by simp [RepW, RepD]) m q⟩
end
/-- a promise that is never asked -/
theorem fn_never {P : Program} {w : World} {K : PySem.W.Frag} {mg : Str → Option Value} {base : Heap} {k : Nat} {f : Addr} {fd : FuncData} {ps : List Str} {sp : SpD} (h : ∀ ws M Q, ¬ sp ws M Q) : FnOk P w K mg base CX0 k f fd ps (upSp K sp) :=
  ⟨fun vs H Q E ⟨ws, M, Qd, _, _, q, _⟩ => absurd q (h ws M Qd), fun A outer s H args us vs Q E _ _ _ _ ⟨ws, M, Qd, _, _, q, _⟩ => absurd q (h ws M Qd)⟩
/-- a comprehension that leaves all as it stands: f tells what becomes of each item -/
theorem lc_gen {g : TGd} {tt : TTd} {te : TD} {k : Nat} {fr : List Nat} {τ : DS} {M : MH} {Q : List PyData → MH → Prop} {ws : List W} (n : Nat) (tail : List (Option W)) (f : W → Option PyData) (hl : ws.length ≤ sizeLine) (h0 : ∃ x, lcSD k fr τ = x ++ tail ∧ x.length = n)
    (step : ∀ w ∈ ws, ∀ x : List (Option W), x.length = n → ∀ P' : Option PyData → List (Option W) → Prop, (∀ x', x'.length = n → P' (f w) x') → g w (x ++ tail) M fun τ2 M2 => tt τ2 M2 fun b M3 => if b = true then te τ2 M3 fun y M4 => ∃ d, y = .d d ∧ M4 = M ∧ ∃ x', τ2 = x' ++ tail ∧ x'.length = n ∧ P' (some d) x' else M3 = M ∧ ∃ x', τ2 = x' ++ tail ∧ x'.length = n ∧ P' none x')
    (q : Q (ws.filterMap f) M)
    (mono : ∀ (w : W) (τ : DS) (M : MH) (A B : DS → MH → Prop), (∀ t m, A t m → B t m) → g w τ M A → g w τ M B)
    (monot : ∀ (τ : DS) (M : MH) (A B : Bool → MH → Prop), (∀ t m, A t m → B t m) → tt τ M A → tt τ M B)
    (monoe : ∀ (τ : DS) (M : MH) (A B : QD), (∀ t m, A t m → B t m) → te τ M A → te τ M B) : ∃ P : Nat → List PyData → DS → MH → Prop, P 0 [] (lcSD k fr τ) M ∧
      (∀ i w acc τ M, ws[i]? = some w → P i acc τ M → acc.length < sizeLine ∧ g w τ M fun τ2 M2 => tt τ2 M2 fun b M3 => if b = true then te τ2 M3 fun y M4 => ∃ d, y = .d d ∧ P (i + 1) (acc ++ [d]) τ2 M4 else P (i + 1) acc τ2 M3) ∧
      ∀ acc τ M, P ws.length acc τ M → Q acc M := by
  let Pk : Nat → List PyData → DS → MH → Prop := fun i acc τ' M' => M' = M ∧ i ≤ ws.length ∧ acc = (ws.take i).filterMap f ∧ ∃ x, τ' = x ++ tail ∧ x.length = n
  refine ⟨Pk, ⟨rfl, Nat.zero_le _, rfl, h0⟩, fun i w acc τ' M' hw hp => ?_, fun acc τ' M' hp => ?_⟩
  · obtain ⟨rfl, hi, rfl, x, rfl, hx⟩ := hp
    have hlt : i < ws.length := (List.getElem?_eq_some_iff.mp hw).1
    have hle : ((ws.take i).filterMap f).length ≤ i := Nat.le_trans (List.length_filterMap_le _ _) (by rw [List.length_take]; omega)
    refine ⟨by omega, ?_⟩
    have htk : (ws.take (i + 1)).filterMap f = (ws.take i).filterMap f ++ (f w).toList := by
      rw [List.take_succ, hw, List.filterMap_append]
      cases e : f w <;> simp [e]
    refine mono _ _ _ _ _ (fun t m a => ?_) (step w (List.mem_of_getElem? hw) x hx (fun o _ => o = f w) fun x' _ => rfl)
    refine monot _ _ _ _ (fun b m2 a2 => ?_) a
    cases b with
    | true =>
      rw [if_pos rfl] at a2 ⊢
      refine monoe _ _ _ _ (fun y m3 ⟨d, e1, e2, x', e3, e4, e5⟩ => ⟨d, e1, e2, hlt, ?_, x', e3, e4⟩) a2
      rw [htk, ← e5]; rfl
    | false =>
      rw [if_neg Bool.false_ne_true] at a2 ⊢
      obtain ⟨e2, x', e3, e4, e5⟩ := a2
      exact ⟨e2, hlt, by rw [htk, ← e5]; simp, x', e3, e4⟩
  · obtain ⟨rfl, hi, rfl, x, rfl, hx⟩ := hp
    rw [List.take_length]
    exact q
end D

set_option Elab.async false
set_option linter.all false
set_option maxRecDepth 100000
set_option maxHeartbeats 4000000
/-! THE RULES, SEALED. -/
namespace D
open PySem PySem.Spec PyProof.Rows L2
namespace Q
section
variable {X : Cx} {pins : List (Addr × Obj)} {σ : St} {H H0 : Hp} {s s0 : Shared}
end
section
variable {K : PySem.W.Frag} {H : Hp} {a : Addr} {o : Obj} {l : List (Key × V)}
end
theorem pd_still {X : Cx} {e : Expr} {t : TD} (h : Jd (PD X e t)) : Jd (PD X e (dStill t)) := ⟨D.pd_still (h := h.h)⟩
theorem pd_never {X : Cx} {e : Expr} : Jd (PD X e dNever) := ⟨D.pd_never ⟩
theorem psd_never {X : Cx} {st : Stmt} : Jd (PSd X st dNeverS) := ⟨D.psd_never ⟩
section
variable {X : Cx} {pins : List (Addr × Obj)} {σ : St} {H : Hp} {s : Shared}
end
section
variable {X : Cx} {tg o : Expr} {apos cpos : Pos} {td : TE}
end
section
variable {X : Cx} {K : PySem.W.Frag} {tg o : Expr} {apos cpos : Pos} {td : TD}
theorem pid_ditems {elts : List Expr} {x1 : Nat} {tpos : Pos} (ho : Jd (PD X o td)) (hbase : attributeBase o "items" X.env (eval o X.env) = eval o X.env := by rfl) (hline : (apos.endLine == cpos.line) = true := by rfl) : Jd (PId X (.Tuple elts x1 tpos) (.Call (.Attribute o "items" apos) [] [] cpos) (dDItems td)) := ⟨D.pid_ditems (ho := ho.h) (hbase := hbase) (hline := hline)⟩
theorem pid_dkeys (ho : Jd (PD X o td)) : Jd (PId X tg o (dDKeys td)) := ⟨D.pid_dkeys (ho := ho.h)⟩
end
section
variable {X : Cx} {K : PySem.W.Frag}
end
section
variable {X : Cx} {K : PySem.W.Frag}
end
end Q
end D

set_option Elab.async false
set_option linter.all false
set_option maxRecDepth 100000
set_option maxHeartbeats 4000000
namespace K55
open PySem PySem.Spec PyProof.Rows L2 D
abbrev C_Hearing : Addr := 83
abbrev N_Hearing_init : List Str := ["self"]
def t_Hearing_init : TSd :=
    dFldPut C_Hearing (dVar 0) (dNewDic) "newest"


abbrev N_Hearing_heard : List Str := ["self", "turn"]
def t_Hearing_heard : TSd :=
    dRet (dCB rdSortS (dCons (dStill (dLC (dDItems (dFld C_Hearing (dVar 0) "newest")) (gT 2 (gsCons (gN 0) (gsCons (gN 1) (gsNil)))) (dTest (dOp rdLe (dOp rdSub (dVar 2) (dOp rdIx (dVar 1) (dC (.d (.int 2))))) (dC (.d (.int 3))))) (dVar 0) 2 [1])) (dNil)))


abbrev N_l_beat : List Str := ["_law_bag_here", "_law_name", "_law_turn", "_law_numbers", "_law_rows"]
def t_l_beat (sp_l_take : SpD) : TSd :=
    dSeq (dAsg (dSl (dLC (dRng2 (dCons (dC (.d (.int 1))) (dCons (dC (.d (.int 9))) (dNil)))) (gN 0) (dTest (dOp rdEqT (dCall sp_l_take (dCons (dVar 1) (dCons (dC (.d (.int 2))) (dNil)))) (dC (.d (.int 0))))) (dVar 0) 1 [0]) (dNoPart) (dPart (dC (.d (.int 6))))) (gN 3)) <|
    dSeq (dAsg (dLC (dItems (dVar 3)) (gN 0) (dYes) (dTup (dCons (dVar 0) (dCons (dOp rdEqT (dCall sp_l_take (dCons (dVar 1) (dCons (dC (.d (.int 2))) (dNil)))) (dC (.d (.int 1)))) (dNil)))) 1 [0]) (gN 4)) <|
    dRet (dTup (dCons (dVar 1) (dCons (dOp rdAdd (dC (.d (.int 1))) (dCall sp_l_take (dCons (dVar 0) (dCons (dC (.d (.int 3))) (dNil))))) (dCons (dVar 2) (dCons (dCall sp_l_take (dCons (dVar 0) (dCons (dOp rdAdd (dVar 2) (dC (.d (.int 1)))) (dNil)))) (dCons (dVar 4) (dNil)))))))


abbrev N_thing_copied : List Str := ["thing"]
def t_thing_copied (sp_self : SpD) : TSd :=
    dSeq (dIf (dTest (dCB rdIsiT (dCons (dVar 0) (dCons (dC (.t "tuple")) (dNil)))))
      (dRet (dCB rdTupleOf (dCons (dLC (dItems (dVar 0)) (gN 0) (dYes) (dCall sp_self (dCons (dVar 0) (dNil))) 1 []) (dNil))))
      (dNext)) <|
    dSeq (dIf (dTest (dCB rdIsiT (dCons (dVar 0) (dCons (dC (.t "list")) (dNil)))))
      (dRet (dLC (dItems (dVar 0)) (gN 0) (dYes) (dCall sp_self (dCons (dVar 0) (dNil))) 1 []))
      (dNext)) <|
    dSeq (dIf (dTest (dCB rdIsiT (dCons (dVar 0) (dCons (dC (.t "dict")) (dNil)))))
      (dRet (dNever))
      (dNext)) <|
    dRet (dVar 0)


abbrev N_Hearing_hear : List Str := ["self", "beat", "machine", "life", "turn", "sheet", "rows"]
def t_Hearing_hear (sp_thing_copied_c : SpD) : TSd :=
    dSeq (dAsg (dVar 1) (gT 5 (gsCons (gN 2) (gsCons (gN 3) (gsCons (gN 4) (gsCons (gN 5) (gsCons (gN 6) (gsNil)))))))) <|
    dSeq (dIf (dAnd (dTest (dDIn (dVar 2) (dFld C_Hearing (dVar 0) "newest"))) (dTest (dOp rdLe (dVar 4) (dOp rdIx (dDGet (dFld C_Hearing (dVar 0) "newest") (dVar 2)) (dC (.d (.int 2)))))))
      (dRet (dC (.d (.bool false))))
      (dNext)) <|
    dSeq (dDPut (dFld C_Hearing (dVar 0) "newest") (dVar 2) (dCall sp_thing_copied_c (dCons (dVar 1) (dNil)))) <|
    dRet (dC (.d (.bool true)))


abbrev N_l_due : List Str := ["_law_newest", "_law_turn"]
def t_l_due : TSd :=
    dRet (dCB rdSortS (dCons (dStill (dLC (dDKeys (dVar 0)) (gN 0) (dTest (dOp rdLe (dOp rdSub (dVar 1) (dDGet (dVar 2) (dVar 0))) (dC (.d (.int 3))))) (dVar 0) 1 [1, 0])) (dNil)))


abbrev N_law : List Str := ["_law_script", "_law_bag_here", "_law_names", "_law_hearing", "_law_newest", "_law_turn", "_law_k", "_law_name", "_law_beat_here", "_law_again", "_law_asked", "_law_start", "_law_one", "_law_found"]
def t_law (sp_l_bag sp_Hearing_init sp_l_take sp_Hearing_heard sp_l_beat sp_Hearing_hear sp_l_due : SpD) : TSd :=
    dSeq (dAsg (dCall sp_l_bag (dCons (dVar 0) (dNil))) (gN 1)) <|
    dSeq (dAsg (dSl (dLst (dCons (dC (.d (.str "ma"))) (dCons (dC (.d (.str "m"))) (dCons (dC (.d (.str "zz"))) (dCons (dC (.d (.str "b"))) (dCons (dC (.d (.str "aa"))) (dCons (dC (.d (.str "east"))) (dNil)))))))) (dNoPart) (dPart (dOp rdAdd (dC (.d (.int 1))) (dCall sp_l_take (dCons (dVar 1) (dCons (dC (.d (.int 6))) (dNil))))))) (gN 2)) <|
    dSeq (dPar 3 4 (dCons (dMake C_Hearing sp_Hearing_init dNil) (dCons (dNewDic) (dNil)))) <|
    dSeq (dIf (dOr (dTest (dOp rdNeT (dMeth C_Hearing "heard" sp_Hearing_heard (dVar 3) (dCons (dC (.d (.int 5))) (dNil))) (dLst (dNil)))) (dTest (dOp rdNeT (dC (.d (.int 3))) (dC (.d (.int 3))))))
      (dRet (dC (.d (.bool false))))
      (dNext)) <|
    dSeq (dFor (dRng2 (dCons (dC (.d (.int 1))) (dCons (dOp rdAdd (dC (.d (.int 4))) (dCall sp_l_take (dCons (dVar 1) (dCons (dC (.d (.int 20))) (dNil))))) (dNil)))) (gN 5)
      (dSeq (dFor (dRng1 (dCons (dCall sp_l_take (dCons (dVar 1) (dCons (dC (.d (.int 4))) (dNil)))) (dNil))) (gN 6)
        (dSeq (dAsg (dOp rdIx (dVar 2) (dOp rdMul (dCall sp_l_take (dCons (dVar 1) (dCons (dCB rdLen (dCons (dVar 2) (dNil))) (dNil)))) (dCB rdInt (dCons (dOp rdGt (dCall sp_l_take (dCons (dVar 1) (dCons (dC (.d (.int 4))) (dNil)))) (dC (.d (.int 0)))) (dNil))))) (gN 7)) <|
        dSeq (dAsg (dCall sp_l_beat (dCons (dVar 1) (dCons (dVar 7) (dCons (dCB rdMax2 (dCons (dC (.d (.int 1))) (dCons (dOp rdSub (dVar 5) (dOp rdIx (dLst (dCons (dC (.d (.int 0))) (dCons (dC (.d (.int 1))) (dCons (dC (.d (.int 2))) (dCons (dC (.d (.int 3))) (dCons (dC (.d (.int 4))) (dCons (dC (.d (.int 6))) (dNil)))))))) (dCall sp_l_take (dCons (dVar 1) (dCons (dC (.d (.int 6))) (dNil)))))) (dNil)))) (dNil))))) (gN 8)) <|
        dSeq (dFor (dRng1 (dCons (dOp rdAdd (dC (.d (.int 1))) (dCB rdInt (dCons (dOp rdEqT (dCall sp_l_take (dCons (dVar 1) (dCons (dC (.d (.int 5))) (dNil)))) (dC (.d (.int 0)))) (dNil)))) (dNil))) (gN 9)
          (dDrop (dMeth C_Hearing "hear" sp_Hearing_hear (dVar 3) (dCons (dVar 8) (dNil))))) <|
        dDPut (dVar 4) (dVar 7) (dCB rdMax2 (dCons (dGet2 (dVar 4) (dVar 7) (dC (.d (.int 0)))) (dCons (dOp rdIx (dVar 8) (dC (.d (.int 2)))) (dNil)))))) <|
      dSeq (dAsg (dLst (dCons (dVar 5) (dCons (dOp rdAdd (dVar 5) (dC (.d (.int 5)))) (dCons (dOp rdAdd (dVar 5) (dC (.d (.int 3)))) (dCons (dOp rdAdd (dVar 5) (dC (.d (.int 1)))) (dCons (dVar 5) (dCons (dOp rdAdd (dVar 5) (dC (.d (.int 2)))) (dCons (dOp rdAdd (dVar 5) (dC (.d (.int 4)))) (dCons (dOp rdPow (dC (.d (.int 10))) (dC (.d (.int 6)))) (dCons (dCB rdMax2 (dCons (dC (.d (.int 1))) (dCons (dOp rdSub (dVar 5) (dC (.d (.int 5)))) (dNil)))) (dCons (dC (.d (.int 1))) (dCons (dC (.d (.int 0))) (dNil))))))))))))) (gN 10)) <|
      dSeq (dAsg (dCall sp_l_take (dCons (dVar 1) (dCons (dC (.d (.int 11))) (dNil)))) (gN 11)) <|
      dFor (dItems (dCat (dSl (dVar 10) (dPart (dVar 11)) (dNoPart)) (dSl (dVar 10) (dNoPart) (dPart (dVar 11))))) (gN 12)
        (dSeq (dAsg (dMeth C_Hearing "heard" sp_Hearing_heard (dVar 3) (dCons (dVar 12) (dNil))) (gN 13)) <|
        dSeq (dIf (dOr (dTest (dOp rdNeT (dVar 13) (dCall sp_l_due (dCons (dVar 4) (dCons (dVar 12) (dNil)))))) (dNot (dTest (dCB rdIsiT (dCons (dVar 13) (dCons (dC (.t "list")) (dNil)))))))
          (dRet (dC (.d (.bool false))))
          (dNext)) <|
        dSeq (dDrop (dAppend (dVar 13) (dC (.d (.str "none"))))) <|
        dDrop (dReverse (dVar 13))))) <|
    dRet (dC (.d (.bool true)))
/-! ### things copied -/
def cp : Nat → PyData → Bool
  | 0, _ => false
  | j + 1, d => match d with
    | .list ds => decide (ds.length ≤ 1000) && ds.all (cp j)
    | .tuple ds => decide (ds.length ≤ 1000) && ds.all (cp j)
    | .dict _ => false
    | _ => true
def sp_thing_copied (j : Nat) : SpD := fun ws M Q => ∃ d, ws = [.d d] ∧ cp j d = true ∧ Q (.d d) M
abbrev sp_thing_copied_c : SpD := sp_thing_copied 4
theorem never_thing_copied : ∀ ws M Q, ¬ sp_thing_copied 0 ws M Q := fun ws M Q ⟨d, _, h, _⟩ => by cases h
theorem len_thing_copied (j : Nat) : ∀ ws M Q, sp_thing_copied j ws M Q → ws.length = 1 := by rintro ws M Q ⟨d, rfl, _⟩; rfl
def selfD : W → Option PyData
  | .d x => some x
  | _ => none
theorem selfD_all (ds : List PyData) : (ds.map W.d).filterMap selfD = ds := by
  rw [fm_map W.d selfD (fun d => d) (fun d => rfl)]
  simp
theorem copied_lc {j : Nat} {τ : DS} {M : MH} {Q : List PyData → MH → Prop} (ds : List PyData) (hl : ds.length ≤ 1000) (ha : ds.all (cp j) = true) (q : Q ds M) :
    ∃ P : Nat → List PyData → DS → MH → Prop, P 0 [] (lcSD 1 [] τ) M ∧
      (∀ i w acc τ M, (ds.map W.d)[i]? = some w → P i acc τ M → acc.length < sizeLine ∧ gN 0 w τ M fun τ2 M2 => dYes τ2 M2 fun b M3 => if b = true then dCall (sp_thing_copied j) (dCons (dVar 0) dNil) τ2 M3 fun y M4 => ∃ d, y = .d d ∧ P (i + 1) (acc ++ [d]) τ2 M4 else P (i + 1) acc τ2 M3) ∧
      ∀ acc τ M, P (ds.map W.d).length acc τ M → Q acc M := by
  refine lc_pure selfD (by rw [List.length_map]; exact few hl) (fun w hw P' hp => ?_) (by rw [selfD_all]; exact q)
  obtain ⟨x, hx, rfl⟩ := List.mem_map.mp hw
  exact ⟨_, rfl, x, rfl, List.all_eq_true.mp ha x hx, x, rfl, rfl, hp⟩
theorem read_thing_copied (j : Nat) : ∀ ws M Q, sp_thing_copied (j + 1) ws M Q → t_thing_copied (sp_thing_copied j) { nx := fun _ M' => Q (.d .none) M', rt := Q } (startD N_thing_copied ws) M := by
  rintro ws M Q ⟨d, rfl, hc, k⟩
  have scal : isiD d "tuple" = false → isiD d "list" = false → isiD d "dict" = false → t_thing_copied (sp_thing_copied j) { nx := fun _ M' => Q (.d .none) M', rt := Q } (startD N_thing_copied [.d d]) M := by
    intro h1 h2 h3
    refine ⟨_, rfl, _, _, _, rfl, .d, .tuple, _, rfl, ?_⟩
    rw [h1]
    refine iteF ⟨_, rfl, _, _, _, rfl, .d, .list, _, rfl, ?_⟩
    rw [h2]
    refine iteF ⟨_, rfl, _, _, _, rfl, .d, .dict, _, rfl, ?_⟩
    rw [h3]
    exact iteF ⟨_, rfl, k⟩
  cases d with
  | none => exact scal rfl rfl rfl
  | bool b => exact scal rfl rfl rfl
  | int i => exact scal rfl rfl rfl
  | str z => exact scal rfl rfl rfl
  | dict kvs => cases hc
  | list ds =>
    simp only [cp, Bool.and_eq_true, decide_eq_true_eq] at hc
    refine ⟨_, rfl, _, _, _, rfl, .d, .tuple, _, rfl, ?_⟩
    rw [show isiD (.list ds) "tuple" = false from rfl]
    refine iteF ⟨_, rfl, _, _, _, rfl, .d, .list, _, rfl, ?_⟩
    rw [show isiD (.list ds) "list" = true from rfl]
    refine iteT ⟨_, rfl, _, rfl, ?_⟩
    exact copied_lc (Q := fun acc M => Q (.d (.list acc)) M) ds hc.1 hc.2 k
  | tuple ds =>
    simp only [cp, Bool.and_eq_true, decide_eq_true_eq] at hc
    refine ⟨_, rfl, _, _, _, rfl, .d, .tuple, _, rfl, ?_⟩
    rw [show isiD (.tuple ds) "tuple" = true from rfl]
    refine iteT ⟨_, rfl, _, rfl, ?_⟩
    exact copied_lc (Q := fun acc M => rdTupleOf [.d (.list acc)] M Q) ds hc.1 hc.2 ⟨_, ds, rfl, .l, k⟩
/-! ### beats -/
structure Beat where
  name : Str
  life : Int
  turn : Int
  sheet : Int
  rows : List PyData
def btD (b : Beat) : PyData := .tuple [.str b.name, .int b.life, .int b.turn, .int b.sheet, .list b.rows]
def BOk (b : Beat) : Prop := b.rows.length ≤ 8 ∧ b.rows.all (cp 2) = true ∧ 1 ≤ b.turn
theorem bt_cp {b : Beat} (h : BOk b) : cp 4 (btD b) = true := by
  have h1 : b.rows.length ≤ 1000 := by have := h.1; omega
  simp [btD, cp, h1]
  have := h.2.1
  simpa [cp] using this
def sp_l_beat : SpD := fun ws M Q => ∃ (p : Addr) (name : Str) (turn : Int), ws = [.m p, .d (.str name), .d (.int turn)] ∧ Bag M p ∧ 1 ≤ turn ∧ turn ≤ 1000 ∧ ∀ (b : Beat) M', b.name = name → b.turn = turn → BOk b → Bag M' p → (∀ q, q ≠ p → M' q = M q) → Q (.d (btD b)) M'
theorem len_l_beat : ∀ ws M Q, sp_l_beat ws M Q → ws.length = 3 := by rintro ws M Q ⟨p, n, t, rfl, _⟩; rfl
theorem cut_mem {ds : List PyData} {lo hi : Option Int} {x : PyData} (h : x ∈ D.cutD ds lo hi) : x ∈ ds := by
  unfold D.cutD at h
  exact List.mem_of_mem_drop (List.mem_of_mem_take h)
theorem cut_len (ds : List PyData) (lo hi : Option Int) : (D.cutD ds lo hi).length ≤ ds.length := by
  unfold D.cutD
  rw [List.length_take, List.length_drop]
  omega
theorem read_l_beat : ∀ ws M Q, sp_l_beat ws M Q → t_l_beat sp_l_take { nx := fun _ M' => Q (.d .none) M', rt := Q } (startD N_l_beat ws) M := by
  rintro ws M Q ⟨p, name, turn, rfl, hb, h0, h1, k⟩
  have s16' := s16
  refine ⟨1, 9, rfl, ⟨by decide, by decide, by decide, by decide⟩, ?_⟩
  dsimp only
  refine lc_inv (fun M' => Bag M' p ∧ ∀ q, q ≠ p → M' q = M q) (fun d => ∃ i, d = .int i) (by simp [rangeW]; omega) ⟨hb, fun _ _ => rfl⟩ (fun w hw M' hj P' hp hn => ?_) (fun acc M1 hj hg hlen => ?_)
  · obtain ⟨i, _, rfl⟩ := List.mem_map.mp hw
    refine ⟨_, rfl, p, 2, rfl, hj.1, by decide, by decide, fun r M2 r0 r1 b2 f2 => ⟨_, _, .d, .d, rfl, _, rfl, ?_⟩⟩
    have hj2 : Bag M2 p ∧ ∀ q, q ≠ p → M2 q = M q := ⟨b2, fun q hq => (f2 q hq).trans (hj.2 q hq)⟩
    refine ite_b (fun _ => ⟨_, rfl, _, rfl, hp _ M2 ⟨_, rfl⟩ hj2⟩) (fun _ => hn M2 hj2)
  have hlen8 : acc.length ≤ 8 := by simpa [rangeW] using hlen
  refine ⟨_, rfl, _, rfl, rfl, ?_⟩
  refine ⟨_, rfl, _, rfl, ?_⟩
  have hcl := cut_len acc none (some 6)
  refine lc_inv (fun M' => Bag M' p ∧ ∀ q, q ≠ p → M' q = M q) (fun d => cp 2 d = true) (by rw [List.length_map]; omega) hj (fun w hw M' hj P' hp hn => ?_) (fun rows M2 hj2 hg2 hlen2 => ?_)
  · obtain ⟨x, hx, rfl⟩ := List.mem_map.mp hw
    obtain ⟨i, rfl⟩ := hg x (cut_mem hx)
    refine ⟨_, rfl, _, rfl, p, 2, rfl, hj.1, by decide, by decide, fun r M2 r0 r1 b2 f2 => ⟨_, _, .d, .d, rfl, _, rfl, few (by simp), _, rfl, ?_⟩⟩
    exact hp _ M2 rfl ⟨b2, fun q hq => (f2 q hq).trans (hj.2 q hq)⟩
  rw [List.length_map] at hlen2
  refine ⟨_, rfl, _, rfl, p, 3, rfl, hj2.1, by decide, by decide, fun l3 M3 l30 l31 b3 f3 => .inl ⟨_, _, rfl, rfl, ?_⟩⟩
  refine ⟨_, rfl, _, rfl, _, rfl, .inl ⟨_, _, rfl, rfl, p, turn + 1, rfl, b3, by omega, by omega, fun s4 M4 s40 s41 b4 f4 => ?_⟩⟩
  refine ⟨_, rfl, _, rfl, few (by simp), ?_⟩
  exact k ⟨name, 1 + l3, turn, s4, rows⟩ M4 rfl rfl ⟨by show rows.length ≤ 8; omega, List.all_eq_true.mpr hg2, h0⟩ b4 fun q hq => by rw [f4 q hq, f3 q hq]; exact hj2.2 q hq
/-! ### what is heard -/
abbrev fldH (d : Addr) : List (Str × W) := [("newest", .m d)]
theorem lk_n {d : Addr} : (fldH d).lookup ("newest" : Str) = some (.m d) := rfl
theorem lk_hear {d : Addr} : (fldH d).lookup ("hear" : Str) = none := rfl
theorem lk_heard {d : Addr} : (fldH d).lookup ("heard" : Str) = none := rfl
def recs (bs : List Beat) : List (Key × PyData) := bs.map fun b => (.inr b.name, btD b)
def news (bs : List Beat) : List (Key × PyData) := bs.map fun b => (.inr b.name, .int b.turn)
structure Hg (M : MH) (h d : Addr) (bs : List Beat) : Prop where
  hh : M h = some (.ins C_Hearing (fldH d))
  hd : M d = some (.dic (dataKV (recs bs)))
def fnd (bs : List Beat) (n : Str) : Option Beat := bs.find? fun b => decide (b.name = n)
theorem fnd_nil (n : Str) : fnd [] n = none := rfl
theorem fnd_cons (b : Beat) (bs : List Beat) (n : Str) : fnd (b :: bs) n = if b.name = n then some b else fnd bs n := by
  by_cases e : b.name = n <;> simp [fnd, List.find?_cons, e]
theorem fnd_mem {bs : List Beat} {n : Str} {x : Beat} (h : fnd bs n = some x) : x ∈ bs ∧ x.name = n := by
  unfold fnd at h
  have h1 := List.find?_some h
  exact ⟨List.mem_of_find?_eq_some h, by simpa using h1⟩
theorem fnd_none {bs : List Beat} {n : Str} (h : fnd bs n = none) : ∀ b ∈ bs, b.name ≠ n := by
  unfold fnd at h
  intro b hb e
  have := List.find?_eq_none.mp h b hb
  simp [e] at this
theorem tget_of (g : Beat → W) : ∀ (bs : List Beat) (n : Str), tget (bs.map fun b => ((.inr b.name : Key), g b)) (.inr n) = (fnd bs n).map g
  | [], n => rfl
  | b :: bs, n => by
    rw [List.map_cons, tget_cons, fnd_cons, tget_of g bs n]
    by_cases e : b.name = n
    · simp [e]
    · have e' : ¬ (Sum.inr b.name : Key) = .inr n := fun z => e (Sum.inr.inj z)
      simp [e, e']
theorem dk_recs (bs : List Beat) : dataKV (recs bs) = bs.map fun b => ((.inr b.name : Key), W.d (btD b)) := by simp [dataKV, recs]
theorem dk_news (bs : List Beat) : dataKV (news bs) = bs.map fun b => ((.inr b.name : Key), W.d (.int b.turn)) := by simp [dataKV, news]
def updB (bs : List Beat) (b : Beat) : List Beat := match fnd bs b.name with
  | none => bs ++ [b]
  | some x => if x.turn < b.turn then bs.map (fun y => if y.name = b.name then b else y) else bs
theorem tput_none (g : Beat → W) {bs : List Beat} {n : Str} (v : W) (h : fnd bs n = none) : tput (bs.map fun b => ((.inr b.name : Key), g b)) (.inr n) v = (bs.map fun b => ((.inr b.name : Key), g b)) ++ [(.inr n, v)] := by
  unfold tput
  rw [tget_any, tget_of, h, if_neg (by simp)]
theorem tput_some (g : Beat → W) {bs : List Beat} {n : Str} {x : Beat} (v : W) (h : fnd bs n = some x) : tput (bs.map fun b => ((.inr b.name : Key), g b)) (.inr n) v = bs.map fun b => if b.name = n then (.inr b.name, v) else ((.inr b.name : Key), g b) := by
  unfold tput
  rw [tget_any, tget_of, h, if_pos (by rfl), List.map_map]
  refine List.map_congr_left fun b _ => ?_
  by_cases e : b.name = n
  · simp [e]
  · have e' : ¬ (Sum.inr b.name : Key) = .inr n := fun z => e (Sum.inr.inj z)
    simp [e, e']
theorem recs_put {bs : List Beat} {b : Beat} (h : ∀ x, fnd bs b.name = some x → x.turn < b.turn) : tput (dataKV (recs bs)) (.inr b.name) (.d (btD b)) = dataKV (recs (updB bs b)) := by
  rw [dk_recs, dk_recs]
  unfold updB
  cases e : fnd bs b.name with
  | none => rw [tput_none _ _ e]; simp
  | some x =>
    rw [tput_some _ _ e]
    dsimp only
    rw [if_pos (h x e), List.map_map]
    refine List.map_congr_left fun y _ => ?_
    by_cases e2 : y.name = b.name
    · simp [e2]
    · simp [e2]
theorem updB_same {bs : List Beat} {b x : Beat} (e : fnd bs b.name = some x) (h : ¬ x.turn < b.turn) : updB bs b = bs := by
  unfold updB
  rw [e]
  exact if_neg h
/-- one of a name -/
theorem one_name {bs : List Beat} (nd : (bs.map (·.name)).Nodup) {x y : Beat} (hx : x ∈ bs) (hy : y ∈ bs) (e : x.name = y.name) : x = y := by
  induction bs with
  | nil => cases hx
  | cons b bs ih =>
    rw [List.map_cons, List.nodup_cons] at nd
    rcases List.mem_cons.mp hx with h1 | h1
    · rcases List.mem_cons.mp hy with h2 | h2
      · rw [h1, h2]
      · exact absurd (List.mem_map.mpr ⟨y, h2, by rw [← e, h1]⟩) nd.1
    · rcases List.mem_cons.mp hy with h2 | h2
      · exact absurd (List.mem_map.mpr ⟨x, h1, by rw [e, h2]⟩) nd.1
      · exact ih nd.2 h1 h2
theorem news_put {bs : List Beat} {b : Beat} (nd : (bs.map (·.name)).Nodup) (hb : 1 ≤ b.turn) {t0 : Int} (ht : (fnd bs b.name).elim (t0 = 0) (fun x => t0 = x.turn)) :
    tput (dataKV (news bs)) (.inr b.name) (.d (.int (if b.turn > t0 then b.turn else t0))) = dataKV (news (updB bs b)) := by
  rw [dk_news, dk_news]
  unfold updB
  cases e : fnd bs b.name with
  | none =>
    rw [e] at ht
    have ht' : t0 = 0 := ht
    rw [tput_none _ _ e, if_pos (by omega)]
    simp
  | some x =>
    rw [e] at ht
    have ht' : t0 = x.turn := ht
    subst ht'
    obtain ⟨hx, hxn⟩ := fnd_mem e
    rw [tput_some _ _ e]
    dsimp only
    by_cases lt : x.turn < b.turn
    · rw [if_pos lt, if_pos lt, List.map_map]
      refine List.map_congr_left fun y _ => ?_
      by_cases e2 : y.name = b.name
      · simp [e2]
      · simp [e2]
    · rw [if_neg lt, if_neg lt]
      refine List.map_congr_left fun y hy => ?_
      by_cases e2 : y.name = b.name
      · have : y = x := one_name nd hy hx (by rw [e2, hxn])
        rw [if_pos e2, this]
      · rw [if_neg e2]
theorem updB_names (bs : List Beat) (b : Beat) : (updB bs b).map (·.name) = if (fnd bs b.name).isSome then bs.map (·.name) else bs.map (·.name) ++ [b.name] := by
  unfold updB
  cases e : fnd bs b.name with
  | none => simp
  | some x =>
    dsimp only
    split
    · rw [List.map_map]
      refine List.map_congr_left fun y _ => ?_
      by_cases e2 : y.name = b.name <;> simp [e2]
    · rfl
theorem updB_nd {bs : List Beat} {b : Beat} (nd : (bs.map (·.name)).Nodup) : ((updB bs b).map (·.name)).Nodup := by
  rw [updB_names]
  cases e : fnd bs b.name with
  | some x => exact nd
  | none =>
    show (bs.map (·.name) ++ [b.name]).Nodup
    rw [List.nodup_append]
    refine ⟨nd, by simp, fun x hx y hy => ?_⟩
    simp at hy
    obtain ⟨z, hz, rfl⟩ := List.mem_map.mp hx
    rw [hy]
    exact fnd_none e z hz
theorem updB_twice {bs : List Beat} {b : Beat} (nd : (bs.map (·.name)).Nodup) : updB (updB bs b) b = updB bs b := by
  have h : ∀ x, fnd (updB bs b) b.name = some x → ¬ x.turn < b.turn := by
    intro x hx
    obtain ⟨h1, h2⟩ := fnd_mem hx
    unfold updB at h1
    cases e : fnd bs b.name with
    | none =>
      rw [e] at h1
      rcases List.mem_append.mp h1 with h | h
      · exact absurd h2 (fnd_none e x h)
      · simp at h
        rw [h]
        omega
    | some y =>
      rw [e] at h1
      dsimp only at h1
      split at h1
      · obtain ⟨z, hz, ez⟩ := List.mem_map.mp h1
        by_cases e2 : z.name = b.name
        · rw [if_pos e2] at ez
          rw [← ez]
          omega
        · rw [if_neg e2] at ez
          rw [← ez] at h2
          exact absurd h2 e2
      · rename_i nlt
        obtain ⟨hy, hyn⟩ := fnd_mem e
        rw [one_name nd h1 hy (by rw [h2, hyn])]
        exact nlt
  have hs : (fnd (updB bs b) b.name).isSome = true := by
    cases e : fnd (updB bs b) b.name with
    | some x => rfl
    | none =>
      exfalso
      have hn := fnd_none e
      have : b.name ∈ (updB bs b).map (·.name) := by
        rw [updB_names]
        cases e2 : fnd bs b.name with
        | none => simp
        | some x =>
          obtain ⟨hx, hxn⟩ := fnd_mem e2
          exact List.mem_map.mpr ⟨x, hx, hxn⟩
      obtain ⟨z, hz, ez⟩ := List.mem_map.mp this
      exact hn z hz ez
  cases e : fnd (updB bs b) b.name with
  | none => rw [e] at hs; cases hs
  | some x =>
    have hlt := h x e
    exact updB_same e hlt
def sp_Hearing_init : SpD := fun ws M Q => ∃ h, ws = [.m h] ∧ M h = some (.ins C_Hearing []) ∧ ∀ d M', M d = none → d ≠ h → Hg M' h d [] → (∀ q, q ≠ h → q ≠ d → M' q = M q) → Q (.d .none) M'
theorem len_Hearing_init : ∀ ws M Q, sp_Hearing_init ws M Q → ws.length = 1 := by rintro ws M Q ⟨h, rfl, _⟩; rfl
theorem read_Hearing_init : ∀ ws M Q, sp_Hearing_init ws M Q → t_Hearing_init { nx := fun _ M' => Q (.d .none) M', rt := Q } (startD N_Hearing_init ws) M := by
  rintro ws M Q ⟨h, rfl, hh, k⟩
  intro d hd
  have n1 : d ≠ h := fun e => by rw [e, hh] at hd; cases hd
  refine ⟨_, rfl, h, _, rfl, by rw [updM_ne n1.symm]; exact hh, by decide, ?_⟩
  exact k d _ hd n1 ⟨by rw [updM_same]; rfl, by rw [updM_ne n1, updM_same]; rfl⟩ fun q q1 q2 => by rw [updM_ne q1, updM_ne q2]
def sp_Hearing_hear : SpD := fun ws M Q => ∃ (h d : Addr) (b : Beat) (bs : List Beat), ws = [.m h, .d (btD b)] ∧ Hg M h d bs ∧ BOk b ∧ bs.length ≤ 1000 ∧ ∀ (c : Bool) M', Hg M' h d (updB bs b) → (∀ q, q ≠ d → M' q = M q) → Q (.d (.bool c)) M'
theorem len_Hearing_hear : ∀ ws M Q, sp_Hearing_hear ws M Q → ws.length = 2 := by rintro ws M Q ⟨h, d, b, bs, rfl, _⟩; rfl
theorem read_Hearing_hear : ∀ ws M Q, sp_Hearing_hear ws M Q → t_Hearing_hear sp_thing_copied_c { nx := fun _ M' => Q (.d .none) M', rt := Q } (startD N_Hearing_hear ws) M := by
  rintro ws M Q ⟨h, d, b, bs, rfl, H, hb, hlen, k⟩
  have s16' := s16
  have nhd : h ≠ d := fun e => by have := H.hh; rw [e, H.hd] at this; cases this
  refine ⟨_, rfl, _, rfl, rfl, _, _, rfl, _, _, rfl, _, _, rfl, _, _, rfl, _, _, rfl, rfl, ?_⟩
  have put : (∀ x, fnd bs b.name = some x → x.turn < b.turn) → (dSeq (dDPut (dFld C_Hearing (dVar 0) "newest") (dVar 2) (dCall sp_thing_copied_c (dCons (dVar 1) (dNil)))) <|
      dRet (dC (.d (.bool true)))) { nx := fun _ M' => Q (.d .none) M', rt := Q } [some (.m h), some (.d (btD b)), some (.d (.str b.name)), some (.d (.int b.life)), some (.d (.int b.turn)), some (.d (.int b.sheet)), some (.d (.list b.rows))] M := by
    intro hx
    refine ⟨_, rfl, btD b, rfl, bt_cp hb, _, rfl, h, _, _, rfl, H.hh, lk_n, _, rfl, d, _, .inr b.name, rfl, H.hd, rfl, by simp only [dataKV, recs, List.length_map]; omega, ?_⟩
    rw [recs_put hx]
    exact k true _ ⟨by rw [updM_ne nhd]; exact H.hh, updM_same⟩ fun q hq => updM_ne hq
  refine ⟨_, rfl, _, rfl, h, _, _, rfl, H.hh, lk_n, _, .k (k := .inr b.name) H.hd, _, rfl, ?_⟩
  have tg : tget (dataKV (recs bs)) (.inr b.name) = (fnd bs b.name).map fun b => .d (btD b) := by rw [dk_recs]; exact tget_of _ _ _
  rw [tg]
  cases e : fnd bs b.name with
  | none => exact iteF (iteF (put fun x hx => by rw [e] at hx; cases hx))
  | some x =>
    refine iteT ?_
    refine ⟨_, rfl, _, rfl, h, _, _, rfl, H.hh, lk_n, _, rfl, d, _, .inr b.name, _, rfl, .inl H.hd, rfl, by rw [tg, e]; rfl, _, _, rfl, rfl, rfl, .inl ⟨_, _, rfl, rfl, _, rfl, ?_⟩⟩
    refine ite_b (fun le => ?_) (fun gt => ?_)
    · have hle : ¬ x.turn < b.turn := by have := of_decide_eq_true le; omega
      exact k false M (by rw [updB_same e hle]; exact H) fun _ _ => rfl
    · refine put fun y hy => ?_
      rw [e] at hy
      cases hy
      have := of_decide_eq_false gt
      omega
/-- the names not silent -/
def dueL (bs : List Beat) (t : Int) : List Str := (bs.filter fun b => decide (t - b.turn ≤ 3)).map (·.name)
def sp_Hearing_heard : SpD := fun ws M Q => ∃ (h d : Addr) (t : Int) (bs : List Beat), ws = [.m h, .d (.int t)] ∧ Hg M h d bs ∧ bs.length ≤ 50 ∧ ∀ zs', zs'.Perm (dueL bs t) → sortedS zs' = true → ∀ p, M p = none → Q (.m p) (updM M p (.lst (strsW zs')))
theorem len_Hearing_heard : ∀ ws M Q, sp_Hearing_heard ws M Q → ws.length = 2 := by rintro ws M Q ⟨h, d, t, bs, rfl, _⟩; rfl
theorem upd_back {M : MH} {d : Addr} {x y : MO} (h : M d = some y) : updM (updM M d x) d y = M := by
  rw [updM_updM]
  funext q
  by_cases e : q = d
  · rw [e, updM_same, h]
  · rw [updM_ne e]
theorem due_take (bs : List Beat) (t : Int) (i : Nat) {b : Beat} (h : bs[i]? = some b) : dueL (bs.take (i + 1)) t = if decide (t - b.turn ≤ 3) = true then dueL (bs.take i) t ++ [b.name] else dueL (bs.take i) t := by
  unfold dueL
  rw [List.take_succ, h, List.filter_append, List.map_append]
  by_cases e : t - b.turn ≤ 3 <;> simp [e]
theorem due_len (bs : List Beat) (t : Int) : (dueL bs t).length ≤ bs.length := by
  unfold dueL
  rw [List.length_map]
  exact List.length_filter_le _ _
theorem read_Hearing_heard : ∀ ws M Q, sp_Hearing_heard ws M Q → t_Hearing_heard { nx := fun _ M' => Q (.d .none) M', rt := Q } (startD N_Hearing_heard ws) M := by
  rintro ws M Q ⟨h, d, t, bs, rfl, H, hlen, k⟩
  have s16' := s16
  have nhd : h ≠ d := fun e => by have := H.hh; rw [e, H.hd] at this; cases this
  refine ⟨d, _, H.hd, _, rfl, h, _, _, rfl, by rw [updM_ne nhd]; exact H.hh, lk_n, d, recs bs, rfl, updM_same, ?_⟩
  have hlw : (pairsW (recs bs)).length = bs.length := by simp [pairsW, recs]
  refine ⟨fun i acc τ M' => M' = updM M d (.fdic (dataKV (recs bs))) ∧ i ≤ bs.length ∧ acc = (dueL (bs.take i) t).map PyData.str ∧ ∃ x0 x1, τ = [x0, x1, some (.d (.int t))], ⟨rfl, Nat.zero_le _, rfl, none, none, rfl⟩, ?_, ?_⟩
  · rintro i w acc τ M' hw ⟨rfl, hi, rfl, x0, x1, rfl⟩
    have hi' : i < bs.length := by rw [← hlw]; exact (List.getElem?_eq_some_iff.mp hw).1
    obtain ⟨b, hb⟩ : ∃ b, bs[i]? = some b := ⟨bs[i], List.getElem?_eq_getElem hi'⟩
    have ew : w = .d (.tuple [.str b.name, btD b]) := by
      have : (pairsW (recs bs))[i]? = some (.d (.tuple [.str b.name, btD b])) := by
        simp only [pairsW, recs, List.getElem?_map, hb, Option.map_some]
        rfl
      rw [this] at hw
      exact (Option.some.inj hw).symm
    subst ew
    have hdl := due_len (bs.take i) t
    rw [List.length_take] at hdl
    refine ⟨by rw [List.length_map]; omega, _, rfl, rfl, _, _, rfl, _, _, rfl, rfl, ?_⟩
    refine ⟨_, rfl, _, rfl, _, _, rfl, rfl, rfl, _, _, rfl, rfl, .inl ⟨_, _, rfl, rfl, _, rfl, ?_⟩⟩
    have dt := due_take bs t i hb
    refine ite_b (fun le => ?_) (fun gt => ?_)
    · rw [if_pos le] at dt
      exact ⟨_, rfl, _, rfl, rfl, hi', by rw [dt]; simp, _, _, rfl⟩
    · rw [if_neg (by rw [gt]; simp)] at dt
      exact ⟨rfl, hi', by rw [dt], _, _, rfl⟩
  · rintro acc τ M' ⟨rfl, hi, rfl, x0, x1, rfl⟩
    rw [hlw, List.take_length]
    refine ⟨updM_same, ?_⟩
    rw [upd_back H.hd]
    have := due_len bs t
    exact ⟨_, dueL bs t, rfl, .d, by omega, fun zs' h1 h2 p hp => k zs' h1 h2 p hp⟩
def sp_l_due : SpD := fun ws M Q => ∃ (n : Addr) (t : Int) (bs : List Beat), ws = [.m n, .d (.int t)] ∧ M n = some (.dic (dataKV (news bs))) ∧ (bs.map (·.name)).Nodup ∧ bs.length ≤ 50 ∧ ∀ zs', zs'.Perm (dueL bs t) → sortedS zs' = true → ∀ p, M p = none → Q (.m p) (updM M p (.lst (strsW zs')))
theorem len_l_due : ∀ ws M Q, sp_l_due ws M Q → ws.length = 2 := by rintro ws M Q ⟨n, t, bs, rfl, _⟩; rfl
theorem fnd_at {bs : List Beat} (nd : (bs.map (·.name)).Nodup) {b : Beat} (h : b ∈ bs) : fnd bs b.name = some b := by
  cases e : fnd bs b.name with
  | none => exact absurd rfl (fnd_none e b h)
  | some x =>
    obtain ⟨h1, h2⟩ := fnd_mem e
    rw [one_name nd h1 h h2]
theorem read_l_due : ∀ ws M Q, sp_l_due ws M Q → t_l_due { nx := fun _ M' => Q (.d .none) M', rt := Q } (startD N_l_due ws) M := by
  rintro ws M Q ⟨n, t, bs, rfl, hn, nd, hlen, k⟩
  have s16' := s16
  refine ⟨n, _, hn, _, rfl, n, news bs, rfl, updM_same, ?_⟩
  have hlw : (keysOfW (news bs)).length = bs.length := by simp [keysOfW, news]
  refine ⟨fun i acc τ M' => M' = updM M n (.fdic (dataKV (news bs))) ∧ i ≤ bs.length ∧ acc = (dueL (bs.take i) t).map PyData.str ∧ ∃ x0, τ = [x0, some (.d (.int t)), some (.m n)], ⟨rfl, Nat.zero_le _, rfl, none, rfl⟩, ?_, ?_⟩
  · rintro i w acc τ M' hw ⟨rfl, hi, rfl, x0, rfl⟩
    have hi' : i < bs.length := by rw [← hlw]; exact (List.getElem?_eq_some_iff.mp hw).1
    obtain ⟨b, hb⟩ : ∃ b, bs[i]? = some b := ⟨bs[i], List.getElem?_eq_getElem hi'⟩
    have ew : w = .d (.str b.name) := by
      have : (keysOfW (news bs))[i]? = some (.d (.str b.name)) := by
        simp only [keysOfW, news, List.getElem?_map, hb, Option.map_some]
        rfl
      rw [this] at hw
      exact (Option.some.inj hw).symm
    subst ew
    have hdl := due_len (bs.take i) t
    rw [List.length_take] at hdl
    have tg : tget (dataKV (news bs)) (.inr b.name) = some (.d (.int b.turn)) := by
      rw [dk_news, tget_of (fun b => .d (.int b.turn)), fnd_at nd (List.mem_of_getElem? hb)]
      rfl
    refine ⟨by rw [List.length_map]; omega, ?_⟩
    refine ⟨_, rfl, _, rfl, _, rfl, n, _, .inr b.name, _, rfl, .inr updM_same, rfl, tg, _, _, rfl, rfl, .inl ⟨_, _, rfl, rfl, _, rfl, ?_⟩⟩
    have dt := due_take bs t i hb
    refine ite_b (fun le => ?_) (fun gt => ?_)
    · rw [if_pos le] at dt
      exact ⟨_, rfl, _, rfl, rfl, hi', by rw [dt]; simp, _, rfl⟩
    · rw [if_neg (by rw [gt]; simp)] at dt
      exact ⟨rfl, hi', by rw [dt], _, rfl⟩
  · rintro acc τ M' ⟨rfl, hi, rfl, x0, rfl⟩
    rw [hlw, List.take_length]
    refine ⟨updM_same, ?_⟩
    rw [upd_back hn]
    have := due_len bs t
    exact ⟨_, dueL bs t, rfl, .d, by omega, fun zs' h1 h2 p hp => k zs' h1 h2 p hp⟩
theorem rising_pw : ∀ (r : List Str) (x : Str), risingS x r = true → (x :: r).Pairwise fun a b => a.cps.toList ≤ b.cps.toList
  | [], x, _ => by simp
  | y :: r, x, h => by
    rw [risingS] at h
    simp only [Bool.and_eq_true, Bool.not_eq_true', ltCps_eq, decide_eq_false_iff_not] at h
    have ih := rising_pw r y h.2
    have hxy : x.cps.toList ≤ y.cps.toList := List.not_lt.mp h.1
    refine List.pairwise_cons.mpr ⟨fun z hz => ?_, ih⟩
    rcases List.mem_cons.mp hz with rfl | hz
    · exact hxy
    · exact List.le_trans hxy ((List.pairwise_cons.mp ih).1 z hz)
theorem sorted_pw {l : List Str} (h : sortedS l = true) : l.Pairwise fun a b => a.cps.toList ≤ b.cps.toList := by
  cases l with
  | nil => exact .nil
  | cons x r => exact rising_pw r x h
theorem sorted_uniq {a b L : List Str} (pa : a.Perm L) (sa : sortedS a = true) (pb : b.Perm L) (sb : sortedS b = true) : a = b :=
  (pa.trans pb.symm).eq_of_pairwise (fun x y _ _ h1 h2 => by
    have : x.cps.toList = y.cps.toList := List.le_antisymm h1 h2
    obtain ⟨xc⟩ := x
    obtain ⟨yc⟩ := y
    have e : xc = yc := Array.toList_inj.mp this
    rw [e]) (sorted_pw sa) (sorted_pw sb)
theorem nd_len : ∀ {xs ys : List Str}, xs.Nodup → (∀ x ∈ xs, x ∈ ys) → xs.length ≤ ys.length
  | [], ys, _, _ => Nat.zero_le _
  | x :: xs, ys, nd, h => by
    rw [List.nodup_cons] at nd
    have hx := h x (by simp)
    have h2 : ∀ z ∈ xs, z ∈ ys.erase x := fun z hz => by
      have hne : z ≠ x := fun e => nd.1 (e ▸ hz)
      exact (List.mem_erase_of_ne hne).mpr (h z (by simp [hz]))
    have := nd_len nd.2 h2
    rw [List.length_erase_of_mem hx] at this
    have hp : 0 < ys.length := List.length_pos_of_mem hx
    simp only [List.length_cons]
    omega
def sp_law : SpD := fun ws M Q => ∃ ns : List Int, ws = [.d (.list (ns.map PyData.int))] ∧ ns.length ≤ 63 ∧ M = (fun _ => none) ∧ ∀ M', Q (.d (.bool true)) M'
theorem len_law : ∀ ws M Q, sp_law ws M Q → ws.length = 1 := by rintro ws M Q ⟨d, rfl, _⟩; rfl
theorem law_read : ∀ ns : List Int, ns.length ≤ 63 → sp_law [.d (.list (ns.map PyData.int))] (fun _ => none) (fun w _ => w = .d (.bool true)) := fun ns h => ⟨ns, rfl, h, rfl, fun _ => rfl⟩
theorem eqv_int' (x y : Int) : PyData.eqv (.int x) (.int y) = decide (x = y) := by
  rw [PyData.eqv]
  by_cases e : x = y
  · subst e; simp
  · simp [e]
theorem bag_at {M : MH} {p : Addr} (h : Bag M p) : ∃ o, M p = some o := by obtain ⟨a, b, c, ns, e, _⟩ := h; exact ⟨_, e⟩
theorem bag_keep {M M' : MH} {p : Addr} (h : Bag M p) (e : M' p = M p) : Bag M' p := by
  obtain ⟨a, b, c, ns, h1, h2⟩ := h
  exact ⟨a, b, c, ns, e.trans h1, h2⟩
theorem bag_live {M : MH} {p : Addr} (h : Bag M p) : M p ≠ none := by
  obtain ⟨o, e⟩ := bag_at h
  rw [e]; simp
theorem ix_at {M : MH} {ds : List PyData} {r : Int} (h0 : 0 ≤ r) (h1 : r < ds.length) : ∃ d, ixW M (.d (.list ds)) r = some (.d d) ∧ d ∈ ds := by
  have hn : r.toNat < ds.length := by omega
  refine ⟨ds[r.toNat], ?_, List.getElem_mem hn⟩
  simp only [ixW, atI, ixN_nat h0 h1, Option.bind_some, List.getElem?_eq_getElem hn, Option.map_some]
theorem ix_int_at {M : MH} {ns : List Int} {r : Int} (h0 : 0 ≤ r) (h1 : r < ns.length) : ∃ i, ixW M (.d (.list (ns.map PyData.int))) r = some (.d (.int i)) ∧ i ∈ ns := by
  obtain ⟨d, e, hd⟩ := ix_at (M := M) (ds := ns.map PyData.int) h0 (by simpa using h1)
  obtain ⟨i, hi, rfl⟩ := List.mem_map.mp hd
  exact ⟨i, e, hi⟩
theorem ix_str_in {M : MH} {zs : List Str} {r : Int} (h0 : 0 ≤ r) (h1 : r < zs.length) : ∃ z, ixW M (.d (.list (zs.map PyData.str))) r = some (.d (.str z)) ∧ z ∈ zs := by
  obtain ⟨d, e, hd⟩ := ix_at (M := M) (ds := zs.map PyData.str) h0 (by simpa using h1)
  obtain ⟨i, hi, rfl⟩ := List.mem_map.mp hd
  exact ⟨i, e, hi⟩
/-! lists of texts compared -/
def Okz (z : Str) : Prop := PyData.strOk z = true
theorem strs_lay : ∀ {zs : List Str}, (∀ z ∈ zs, Okz z) → PyData.canLayAll0 (zs.map PyData.str) = true
  | [], _ => by simp [PyData.canLayAll0]
  | z :: zs, h => by
    have h1 : PyData.strOk z = true := h z (by simp)
    have h2 := strs_lay (zs := zs) fun x hx => h x (by simp [hx])
    simp only [List.map_cons, PyData.canLayAll0, PyData.canLay0, h1, h2, Bool.and_self]
theorem strs_depth : ∀ (zs : List Str), PyData.depthAll (zs.map PyData.str) ≤ 1
  | [] => by simp [PyData.depthAll]
  | z :: zs => by
    have h2 := strs_depth zs
    simp only [List.map_cons, PyData.depthAll, PyData.depth]
    omega
theorem strs_nd : ∀ (zs : List Str), PyData.hasDictAll (zs.map PyData.str) = false
  | [] => by simp [PyData.hasDictAll]
  | z :: zs => by simp [PyData.hasDictAll, PyData.hasDict, strs_nd zs]
theorem strs_eqOk {zs : List Str} (h : ∀ z ∈ zs, Okz z) : eqOk (.list (zs.map PyData.str)) = true := by
  have h1 := strs_lay h
  have h2 := strs_depth zs
  have h3 := strs_nd zs
  have h4 : PyData.depth (.list (zs.map PyData.str)) ≤ 64 := by
    rw [PyData.depth]
    omega
  simp only [eqOk, SeqAt.shaped, PyData.canLay0, PyData.hasDict, h1, h3, Bool.true_and, Bool.not_false, Bool.and_true]
  exact decide_eq_true h4
theorem strs_refl {zs : List Str} (h : ∀ z ∈ zs, Okz z) : PyData.eqv (.list (zs.map PyData.str)) (.list (zs.map PyData.str)) = true := SeqAt.eqv_refl _ (by rw [PyData.canLay0]; exact strs_lay h)
theorem list_eqOk2 {xs ys : List PyData} (h1 : eqOk (.list xs) = true) (h2 : eqOk (.list ys) = true) : eqOk2 (.list xs) (.list ys) = true := by
  show (eqOk (.list xs) && eqOk (.list ys)) = true
  rw [h1, h2]; rfl
theorem strsW_d (zs : List Str) : strsW zs = (zs.map PyData.str).map W.d := by simp [strsW]
abbrev allN : List Str := ["ma", "m", "zz", "b", "aa", "east"]
theorem allN_ok : ∀ z ∈ allN, Okz z := by
  intro z hz
  simp at hz
  rcases hz with rfl | rfl | rfl | rfl | rfl | rfl <;> (unfold Okz; decide +kernel)
structure Iv (M : MH) (p h d n : Addr) (zs : List Str) (bs : List Beat) : Prop where
  bag : Bag M p
  hg : Hg M h d bs
  nw : M n = some (.dic (dataKV (news bs)))
  dn : d ≠ n
  nd : (bs.map (·.name)).Nodup
  sub : ∀ x ∈ bs.map (·.name), x ∈ zs
theorem Iv.ph {M : MH} {p h d n : Addr} {zs : List Str} {bs : List Beat} (I : Iv M p h d n zs bs) : h ≠ p ∧ d ≠ p ∧ n ≠ p ∧ h ≠ d ∧ h ≠ n := by
  obtain ⟨a, b, c, ns, e, _⟩ := I.bag
  refine ⟨fun z => ?_, fun z => ?_, fun z => ?_, fun z => ?_, fun z => ?_⟩
  · have := I.hg.hh; rw [z, e] at this; cases this
  · have := I.hg.hd; rw [z, e] at this; cases this
  · have := I.nw; rw [z, e] at this; cases this
  · have := I.hg.hh; rw [z, I.hg.hd] at this; cases this
  · have := I.hg.hh; rw [z, I.nw] at this; cases this
theorem Iv.take {M M' : MH} {p h d n : Addr} {zs : List Str} {bs : List Beat} (I : Iv M p h d n zs bs) (b : Bag M' p) (f : ∀ q, M q ≠ none → q ≠ p → M' q = M q) : Iv M' p h d n zs bs := by
  obtain ⟨h1, h2, h3, _⟩ := I.ph
  exact ⟨b, ⟨by rw [f h (by rw [I.hg.hh]; simp) h1]; exact I.hg.hh, by rw [f d (by rw [I.hg.hd]; simp) h2]; exact I.hg.hd⟩, by rw [f n (by rw [I.nw]; simp) h3]; exact I.nw, I.dn, I.nd, I.sub⟩
theorem Iv.len {M : MH} {p h d n : Addr} {zs : List Str} {bs : List Beat} (I : Iv M p h d n zs bs) (hz : zs.length ≤ 6) : bs.length ≤ 6 := by
  have := nd_len I.nd I.sub
  rw [List.length_map] at this
  omega
theorem due_ok {zs : List Str} {bs : List Beat} (hz : ∀ z ∈ zs, Okz z) (sub : ∀ x ∈ bs.map (·.name), x ∈ zs) (t : Int) {ys : List Str} (hp : ys.Perm (dueL bs t)) : ∀ y ∈ ys, Okz y := fun y hy => by
  have h1 := (hp.mem_iff).mp hy
  unfold dueL at h1
  obtain ⟨b, hb, rfl⟩ := List.mem_map.mp h1
  exact hz _ (sub _ (List.mem_map.mpr ⟨b, (List.mem_filter.mp hb).1, rfl⟩))
/-- what is asked behind a turn -/
theorem asked_loop {M : MH} {p h d n : Addr} {zs : List Str} {bs : List Beat} {Q : QD} {D : Ed} {sc : W} {T : Int} {x6 x7 x8 x9 x12 x13 : Option W} {as : List Int} {st : Int} (hD : D.rt = Q) (hz : ∀ z ∈ zs, Okz z) (hz6 : zs.length ≤ 6) (I : Iv M p h d n zs bs) (hal : as.length = 11)
    (k : ∀ M' y6 y7 y8 y9 y10 y11 y12 y13, Iv M' p h d n zs bs → D.nx [some sc, some (.m p), some (.d (.list (zs.map PyData.str))), some (.m h), some (.m n), some (.d (.int T)), y6, y7, y8, y9, y10, y11, y12, y13] M') :
    dFor (dItems (dCat (dSl (dVar 10) (dPart (dVar 11)) (dNoPart)) (dSl (dVar 10) (dNoPart) (dPart (dVar 11))))) (gN 12)
        (dSeq (dAsg (dMeth C_Hearing "heard" sp_Hearing_heard (dVar 3) (dCons (dVar 12) (dNil))) (gN 13)) <|
        dSeq (dIf (dOr (dTest (dOp rdNeT (dVar 13) (dCall sp_l_due (dCons (dVar 4) (dCons (dVar 12) (dNil)))))) (dNot (dTest (dCB rdIsiT (dCons (dVar 13) (dCons (dC (.t "list")) (dNil)))))))
          (dRet (dC (.d (.bool false))))
          (dNext)) <|
        dSeq (dDrop (dAppend (dVar 13) (dC (.d (.str "none"))))) <|
        dDrop (dReverse (dVar 13))) D [some sc, some (.m p), some (.d (.list (zs.map PyData.str))), some (.m h), some (.m n), some (.d (.int T)), x6, x7, x8, x9, some (.d (.list (as.map PyData.int))), some (.d (.int st)), x12, x13] M := by
  have s16' := s16
  have l1 := cut_len (as.map PyData.int) (some st) none
  have l2 := cut_len (as.map PyData.int) none (some st)
  rw [List.length_map] at l1 l2
  refine ⟨_, rfl, _, rfl, _, rfl, _, rfl, rfl, _, rfl, _, rfl, _, rfl, _, rfl, rfl, _, _, .d, .d, by omega, _, rfl, ?_⟩
  refine ⟨fun i τ M' => Iv M' p h d n zs bs ∧ ∃ y12 y13, τ = [some sc, some (.m p), some (.d (.list (zs.map PyData.str))), some (.m h), some (.m n), some (.d (.int T)), x6, x7, x8, x9, some (.d (.list (as.map PyData.int))), some (.d (.int st)), y12, y13], ⟨I, _, _, rfl⟩, ?_, ?_⟩
  · rintro i w τ M' hw ⟨I, y12, y13, rfl⟩
    obtain ⟨t, rfl⟩ : ∃ t, w = .d (.int t) := by
      have hm := List.mem_of_getElem? hw
      obtain ⟨x, hx, rfl⟩ := List.mem_map.mp hm
      have : x ∈ as.map PyData.int := by
        rcases List.mem_append.mp hx with h | h
        · exact cut_mem h
        · exact cut_mem h
      obtain ⟨t, _, rfl⟩ := List.mem_map.mp this
      exact ⟨t, rfl⟩
    obtain ⟨q1, q2, q3, q4, q5⟩ := I.ph
    have hl := I.len hz6
    refine ⟨_, rfl, h, _, rfl, I.hg.hh, lk_heard, _, rfl, h, d, t, bs, rfl, I.hg, by omega, fun z1 p1 s1 a ha => ?_⟩
    have na : n ≠ a := fun e => by have := I.nw; rw [e, ha] at this; cases this
    have hma : updM M' a (.lst (strsW z1)) a = some (.lst ((z1.map PyData.str).map W.d)) := by rw [updM_same, strsW_d]
    refine ⟨_, rfl, _, rfl, _, rfl, n, t, bs, rfl, by rw [updM_ne na]; exact I.nw, I.nd, by omega, fun z2 p2 s2 a2 ha2 => ?_⟩
    have e12 : z1 = z2 := sorted_uniq p1 s1 p2 s2
    subst e12
    have aa : a ≠ a2 := fun e => by rw [← e, updM_same] at ha2; cases ha2
    have ok := strs_eqOk (due_ok hz I.sub t p1)
    have hm1 : updM (updM M' a (.lst (strsW z1))) a2 (.lst (strsW z1)) a = some (.lst ((z1.map PyData.str).map W.d)) := by rw [updM_ne aa]; exact hma
    have hm2 : updM (updM M' a (.lst (strsW z1))) a2 (.lst (strsW z1)) a2 = some (.lst ((z1.map PyData.str).map W.d)) := by rw [updM_same, strsW_d]
    refine ⟨_, _, .l hm1, .l hm2, list_eqOk2 ok ok, _, rfl, ?_⟩
    rw [strs_refl (due_ok hz I.sub t p1)]
    refine iteF ?_
    refine ⟨_, rfl, _, _, _, rfl, .l hm1, .list, true, rfl, ?_⟩
    refine iteF ?_
    have hzl : z1.length ≤ 6 := by
      rw [p1.length_eq]
      have := due_len bs t
      omega
    refine ⟨_, rfl, a, _, rfl, hm1, _, hm1, by simp only [List.length_map]; omega, ?_⟩
    refine ⟨_, rfl, a, _, rfl, updM_same, ?_⟩
    refine ⟨I.take (bag_keep I.bag ?_) fun q z1 z2 => ?_, _, _, rfl⟩
    · have pa : p ≠ a := fun e => bag_live I.bag (by rw [e]; exact ha)
      have pa2 : p ≠ a2 := fun e => by rw [← e, updM_ne pa] at ha2; exact bag_live I.bag ha2
      rw [updM_ne pa, updM_ne pa, updM_ne pa2, updM_ne pa]
    · have qa : q ≠ a := fun e => z1 (by rw [e]; exact ha)
      have qa2 : q ≠ a2 := fun e => by rw [← e, updM_ne qa] at ha2; exact z1 ha2
      rw [updM_ne qa, updM_ne qa, updM_ne qa2, updM_ne qa]
  · rintro τ M' ⟨I, y12, y13, rfl⟩
    exact k M' _ _ _ _ _ _ _ _ I
theorem Iv.put {M M' : MH} {p h d n : Addr} {zs : List Str} {bs : List Beat} {b : Beat} (I : Iv M p h d n zs bs) (hb : BOk b) (hn : b.name ∈ zs) (bag : Bag M' p) (hg : Hg M' h d (updB bs b)) (nw : M' n = some (.dic (dataKV (news (updB bs b))))) : Iv M' p h d n zs (updB bs b) := by
  refine ⟨bag, hg, nw, I.dn, updB_nd I.nd, fun x hx => ?_⟩
  rw [updB_names] at hx
  cases e : fnd bs b.name with
  | some y => rw [e] at hx; exact I.sub x hx
  | none =>
    rw [e] at hx
    rcases List.mem_append.mp hx with h | h
    · exact I.sub x h
    · simp at h
      rw [h]
      exact hn
/-- one beat more -/
theorem beat_turn {M : MH} {p h d n : Addr} {zs : List Str} {bs : List Beat} {D : Ed} {sc : W} {T : Int} {x6 x7 x8 x9 x10 x11 x12 x13 : Option W} (hz1 : 1 ≤ zs.length) (hz6 : zs.length ≤ 6) (hT0 : 1 ≤ T) (hT : T ≤ 100) (I : Iv M p h d n zs bs)
    (k : ∀ M' bs' y7 y8 y9, Iv M' p h d n zs bs' → D.nx [some sc, some (.m p), some (.d (.list (zs.map PyData.str))), some (.m h), some (.m n), some (.d (.int T)), x6, y7, y8, y9, x10, x11, x12, x13] M') :
    (dSeq (dAsg (dOp rdIx (dVar 2) (dOp rdMul (dCall sp_l_take (dCons (dVar 1) (dCons (dCB rdLen (dCons (dVar 2) (dNil))) (dNil)))) (dCB rdInt (dCons (dOp rdGt (dCall sp_l_take (dCons (dVar 1) (dCons (dC (.d (.int 4))) (dNil)))) (dC (.d (.int 0)))) (dNil))))) (gN 7)) <|
        dSeq (dAsg (dCall sp_l_beat (dCons (dVar 1) (dCons (dVar 7) (dCons (dCB rdMax2 (dCons (dC (.d (.int 1))) (dCons (dOp rdSub (dVar 5) (dOp rdIx (dLst (dCons (dC (.d (.int 0))) (dCons (dC (.d (.int 1))) (dCons (dC (.d (.int 2))) (dCons (dC (.d (.int 3))) (dCons (dC (.d (.int 4))) (dCons (dC (.d (.int 6))) (dNil)))))))) (dCall sp_l_take (dCons (dVar 1) (dCons (dC (.d (.int 6))) (dNil)))))) (dNil)))) (dNil))))) (gN 8)) <|
        dSeq (dFor (dRng1 (dCons (dOp rdAdd (dC (.d (.int 1))) (dCB rdInt (dCons (dOp rdEqT (dCall sp_l_take (dCons (dVar 1) (dCons (dC (.d (.int 5))) (dNil)))) (dC (.d (.int 0)))) (dNil)))) (dNil))) (gN 9)
          (dDrop (dMeth C_Hearing "hear" sp_Hearing_hear (dVar 3) (dCons (dVar 8) (dNil))))) <|
        dDPut (dVar 4) (dVar 7) (dCB rdMax2 (dCons (dGet2 (dVar 4) (dVar 7) (dC (.d (.int 0)))) (dCons (dOp rdIx (dVar 8) (dC (.d (.int 2)))) (dNil)))))
      D [some sc, some (.m p), some (.d (.list (zs.map PyData.str))), some (.m h), some (.m n), some (.d (.int T)), x6, x7, x8, x9, x10, x11, x12, x13] M := by
  have s16' := s16
  have hl := I.len hz6
  refine ⟨_, rfl, _, rfl, _, rfl, _, _, rfl, rfl, rfl, p, ((zs.map PyData.str).length : Nat), rfl, I.bag, by simp only [List.length_map]; omega, by simp only [List.length_map]; omega, fun a1 M1 a10 a11 b1 f1 => ?_⟩
  rw [List.length_map] at a11
  refine ⟨_, rfl, p, 4, rfl, b1, by decide, by decide, fun a2 M2 a20 a21 b2 f2 => ?_⟩
  refine ⟨_, _, rfl, rfl, .inr ⟨_, rfl, _, _, rfl, rfl, .inl ⟨by omega, by omega⟩, ?_⟩⟩
  have I2 := (I.take b1 fun q _ hq => f1 q hq).take b2 fun q _ hq => f2 q hq
  have hix : 0 ≤ a1 * (if decide (a2 > 0) = true then 1 else 0) ∧ a1 * (if decide (a2 > 0) = true then 1 else 0) < zs.length := by
    split
    · rw [Int.mul_one]; exact ⟨a10, a11⟩
    · rw [Int.mul_zero]; omega
  obtain ⟨name, en, hn⟩ := ix_str_in (M := M2) (zs := zs) hix.1 hix.2
  refine ⟨_, _, rfl, en, rfl, ?_⟩
  refine ⟨_, rfl, _, rfl, _, rfl, _, rfl, few (by simp), _, rfl, p, 6, rfl, I2.bag, by decide, by decide, fun a3 M3 a30 a31 b3 f3 => ?_⟩
  have I3 := I2.take b3 fun q _ hq => f3 q hq
  obtain ⟨late, el, hla⟩ := ix_int_at (M := M3) (ns := [0, 1, 2, 3, 4, 6]) a30 a31
  have hlate : 0 ≤ late ∧ late ≤ 6 := by
    simp at hla
    rcases hla with rfl | rfl | rfl | rfl | rfl | rfl <;> decide
  have ht : 1 ≤ (if T - late > 1 then T - late else 1) ∧ (if T - late > 1 then T - late else 1) ≤ 1000 := by split <;> omega
  refine ⟨_, _, rfl, el, rfl, _, _, rfl, rfl, _, _, rfl, p, name, _, rfl, I3.bag, ht.1, ht.2, fun b M4 e1 e2 hb b4 f4 => ?_⟩
  have I4 := I3.take b4 fun q _ hq => f4 q hq
  refine ⟨_, rfl, p, 5, rfl, I4.bag, by decide, by decide, fun a5 M5 a50 a51 b5 f5 => ?_⟩
  have I5 := I4.take b5 fun q _ hq => f5 q hq
  obtain ⟨q1, q2, q3, q4, q5⟩ := I5.ph
  refine ⟨_, _, .d, .d, rfl, .inr ⟨_, rfl, .inl ⟨_, _, rfl, rfl, _, rfl, ?_, ?_, ?_⟩⟩⟩
  · split <;> decide
  · split <;> decide
  have hc : 1 ≤ (1 + (if PyData.eqv (.int a5) (.int 0) = true then (1 : Int) else 0)).toNat := by split <;> decide
  generalize (1 + (if PyData.eqv (.int a5) (.int 0) = true then (1 : Int) else 0)).toNat = cnt at hc ⊢
  refine ⟨fun j τ M' => Bag M' p ∧ Hg M' h d (if j = 0 then bs else updB bs b) ∧ M' n = M5 n ∧ ∃ y9, τ = [some sc, some (.m p), some (.d (.list (zs.map PyData.str))), some (.m h), some (.m n), some (.d (.int T)), x6, some (.d (.str name)), some (.d (btD b)), y9, x10, x11, x12, x13], ⟨I5.bag, I5.hg, rfl, _, rfl⟩, ?_, ?_⟩
  · rintro j w τ M' hw ⟨bg, hg, hnn, y9, rfl⟩
    refine ⟨_, rfl, h, _, rfl, hg.hh, lk_hear, _, rfl, h, d, b, (if j = 0 then bs else updB bs b), rfl, hg, hb, ?_, fun c M6 hg6 fr6 => ?_⟩
    · split
      · omega
      · have : (updB bs b).length = ((updB bs b).map (·.name)).length := by rw [List.length_map]
        rw [this, updB_names]
        split
        · rw [List.length_map]; omega
        · rw [List.length_append, List.length_map, List.length_singleton]; omega
    · refine ⟨bag_keep bg (fr6 p q2.symm), ?_, by rw [fr6 n I5.dn.symm]; exact hnn, _, rfl⟩
      rw [if_neg (Nat.succ_ne_zero j)]
      split at hg6
      · exact hg6
      · rw [updB_twice I5.nd] at hg6
        exact hg6
  · rintro τ M' ⟨bg, hg, hnn, y9, rfl⟩
    have hcl : (rangeW 0 cnt).length ≠ 0 := by simp only [rangeW, List.length_map, List.length_range]; omega
    rw [if_neg hcl] at hg
    have nw : M' n = some (.dic (dataKV (news bs))) := by rw [hnn]; exact I5.nw
    have tg : tget (dataKV (news bs)) (.inr b.name) = (fnd bs b.name).map fun b => .d (.int b.turn) := by rw [dk_news]; exact tget_of _ _ _
    have fin : ∀ t0 : Int, (fnd bs b.name).elim (t0 = 0) (fun x => t0 = x.turn) → D.nx [some sc, some (.m p), some (.d (.list (zs.map PyData.str))), some (.m h), some (.m n), some (.d (.int T)), x6, some (.d (.str name)), some (.d (btD b)), y9, x10, x11, x12, x13] (updM M' n (.dic (tput (dataKV (news bs)) (.inr b.name) (.d (.int (if b.turn > t0 then b.turn else t0)))))) := by
      intro t0 ht0
      rw [news_put I5.nd hb.2.2 ht0]
      exact k _ (updB bs b) _ _ _ (I5.put hb (by rw [e1]; exact hn) (bag_keep bg (updM_ne q3.symm)) ⟨by rw [updM_ne q5]; exact hg.hh, by rw [updM_ne I5.dn]; exact hg.hd⟩ updM_same)
    have hkl : (dataKV (news bs)).length < sizeLine := by simp only [dataKV, news, List.length_map]; omega
    refine ⟨_, rfl, .k nw, _, rfl, _, .k (k := .inr name) nw, ?_⟩
    rw [← e1, tg]
    cases e : fnd bs b.name with
    | none =>
      refine ⟨_, rfl, _, _, rfl, rfl, rfl, 0, b.turn, rfl, _, rfl, _, rfl, n, _, .inr b.name, rfl, nw, by rw [e1]; rfl, hkl, ?_⟩
      have z := fin 0 (by rw [e]; rfl)
      rw [← e1] at z
      exact z
    | some x =>
      refine ⟨_, rfl, _, _, rfl, rfl, rfl, x.turn, b.turn, rfl, _, rfl, _, rfl, n, _, .inr b.name, rfl, nw, by rw [e1]; rfl, hkl, ?_⟩
      have z := fin x.turn (by rw [e]; rfl)
      rw [← e1] at z
      exact z
theorem names_cut {n2 : Int} (h0 : 0 ≤ n2) (h1 : n2 < 6) : ∃ zs : List Str, D.cutD (allN.map PyData.str) none (some (1 + n2)) = zs.map PyData.str ∧ 1 ≤ zs.length ∧ zs.length ≤ 6 ∧ ∀ z ∈ zs, z ∈ allN := by
  have : n2 = 0 ∨ n2 = 1 ∨ n2 = 2 ∨ n2 = 3 ∨ n2 = 4 ∨ n2 = 5 := by omega
  rcases this with rfl | rfl | rfl | rfl | rfl | rfl
  · exact ⟨allN.take 1, rfl, by decide, by decide, fun z hz => List.mem_of_mem_take hz⟩
  · exact ⟨allN.take 2, rfl, by decide, by decide, fun z hz => List.mem_of_mem_take hz⟩
  · exact ⟨allN.take 3, rfl, by decide, by decide, fun z hz => List.mem_of_mem_take hz⟩
  · exact ⟨allN.take 4, rfl, by decide, by decide, fun z hz => List.mem_of_mem_take hz⟩
  · exact ⟨allN.take 5, rfl, by decide, by decide, fun z hz => List.mem_of_mem_take hz⟩
  · exact ⟨allN.take 6, rfl, by decide, by decide, fun z hz => List.mem_of_mem_take hz⟩
theorem read_law : ∀ ws M Q, sp_law ws M Q → t_law sp_l_bag sp_Hearing_init sp_l_take sp_Hearing_heard sp_l_beat sp_Hearing_hear sp_l_due { nx := fun _ M' => Q (.d .none) M', rt := Q } (startD N_law ws) M := by
  rintro ws M Q ⟨ns, rfl, hl, rfl, k⟩
  have s16' := s16
  refine ⟨_, rfl, ns, rfl, by omega, fun p M1 _ f1 b1 => ?_⟩
  refine ⟨_, rfl, few (by simp), _, rfl, p, 6, rfl, b1, by decide, by decide, fun n2 M2 n20 n21 b2 f2 => .inl ⟨_, _, rfl, rfl, _, rfl, _, rfl, rfl, ?_⟩⟩
  obtain ⟨zs, ezs, hz1, hz6, hzn⟩ := names_cut n20 n21
  rw [show D.cutD [PyData.str "ma", .str "m", .str "zz", .str "b", .str "aa", .str "east"] none (some (1 + n2)) = zs.map PyData.str from ezs]
  have hzok : ∀ z ∈ zs, Okz z := fun z hz => allN_ok z (hzn z hz)
  refine fun h hh => ⟨h, rfl, updM_same, fun d M3 hd dh H3 fr3 => ⟨rfl, fun n hn => ⟨_, _, rfl, ?_⟩⟩⟩
  have ph : p ≠ h := fun e => bag_live b2 (by rw [e]; exact hh)
  have pd : p ≠ d := fun e => by
    rw [updM_ne dh] at hd
    exact bag_live b2 (by rw [e]; exact hd)
  have b3 : Bag M3 p := bag_keep b2 (by rw [fr3 p ph pd, updM_ne ph])
  have hnh : h ≠ n := fun e => by have := H3.hh; rw [e, hn] at this; cases this
  have hnd : d ≠ n := fun e => by have := H3.hd; rw [e, hn] at this; cases this
  have pn : p ≠ n := fun e => bag_live b3 (by rw [e]; exact hn)
  have I4 : Iv (updM M3 n (.dic [])) p h d n zs [] := ⟨bag_keep b3 (updM_ne pn), ⟨by rw [updM_ne hnh]; exact H3.hh, by rw [updM_ne hnd]; exact H3.hd⟩, updM_same, hnd, by simp, by simp⟩
  generalize updM M3 n (.dic []) = M4 at I4 ⊢
  refine ⟨_, rfl, h, _, rfl, I4.hg.hh, lk_heard, h, d, 5, [], rfl, I4.hg, by decide, fun z1 p1 s1 a ha => ?_⟩
  have ez : z1 = [] := List.perm_nil.mp p1
  subst ez
  refine ⟨_, rfl, Nat.zero_le _, _, _, .l (ds := []) updM_same, .d, rfl, _, rfl, ?_⟩
  rw [show (!PyData.eqv (.list []) (.list [])) = false from rfl]
  refine iteF ?_
  refine ⟨_, _, .d, .d, rfl, _, rfl, ?_⟩
  rw [eqv_int', decide_eq_true rfl]
  refine iteF ?_
  have I5 : Iv (updM M4 a (.lst (strsW []))) p h d n zs [] := I4.take (bag_keep I4.bag (updM_ne fun e => bag_live I4.bag (by rw [e]; exact ha))) fun q q1 q2 => updM_ne fun e => q1 (by rw [e]; exact ha)
  generalize updM M4 a (.lst (strsW [])) = M5 at I5 ⊢
  refine ⟨_, rfl, p, 20, rfl, I5.bag, by decide, by decide, fun n5 M6 n50 n51 b6 f6 => .inl ⟨_, _, rfl, rfl, 1, 4 + n5, rfl, ⟨by decide, by decide, by omega, by omega⟩, ?_⟩⟩
  have I6 := I5.take b6 fun q _ hq => f6 q hq
  dsimp only
  refine ⟨fun i τ M' => ∃ bs x5 x6 x7 x8 x9 x10 x11 x12 x13, Iv M' p h d n zs bs ∧ τ = [some (.d (.list (ns.map PyData.int))), some (.m p), some (.d (.list (zs.map PyData.str))), some (.m h), some (.m n), x5, x6, x7, x8, x9, x10, x11, x12, x13], ⟨[], _, _, _, _, _, _, _, _, _, I6, rfl⟩, ?_, ?_⟩
  · rintro i w τ M' hw ⟨bs, x5, x6, x7, x8, x9, x10, x11, x12, x13, I, rfl⟩
    have hi : i < (4 + n5 - 1).toNat := by
      have := (List.getElem?_eq_some_iff.mp hw).1
      simpa [rangeW] using this
    obtain ⟨j, rfl, hj⟩ : ∃ j : Nat, w = .d (.int (1 + (j : Int))) ∧ j < (4 + n5 - 1).toNat := by
      have hm := List.mem_of_getElem? hw
      simp only [rangeW, List.mem_map, List.mem_range] at hm
      obtain ⟨j, hj, e⟩ := hm
      exact ⟨j, e.symm, hj⟩
    have hT0 : 1 ≤ 1 + (j : Int) := by omega
    have hT : 1 + (j : Int) ≤ 100 := by omega
    refine ⟨_, rfl, p, 4, rfl, I.bag, by decide, by decide, fun m M7 m0 m1 b7 f7 => ⟨m, rfl, by omega, by omega, ?_⟩⟩
    have I7 := I.take b7 fun q _ hq => f7 q hq
    dsimp only
    refine ⟨fun i2 τ M' => ∃ bs x6 x7 x8 x9 x10 x11 x12 x13, Iv M' p h d n zs bs ∧ τ = [some (.d (.list (ns.map PyData.int))), some (.m p), some (.d (.list (zs.map PyData.str))), some (.m h), some (.m n), some (.d (.int (1 + (j : Int)))), x6, x7, x8, x9, x10, x11, x12, x13], ⟨bs, _, _, _, _, _, _, _, _, I7, rfl⟩, ?_, ?_⟩
    · rintro i2 w2 τ M8 hw2 ⟨bs, y6, y7, y8, y9, y10, y11, y12, y13, I8, rfl⟩
      exact beat_turn hz1 hz6 hT0 hT I8 fun M9 bs' z7 z8 z9 I9 => ⟨bs', _, _, _, _, _, _, _, _, I9, rfl⟩
    · rintro τ M8 ⟨bs, y6, y7, y8, y9, y10, y11, y12, y13, I8, rfl⟩
      refine ⟨_, rfl, _, rfl, .inl ⟨_, _, rfl, rfl, _, rfl, .inl ⟨_, _, rfl, rfl, _, rfl, .inl ⟨_, _, rfl, rfl, _, rfl, _, rfl, .inl ⟨_, _, rfl, rfl, _, rfl, .inl ⟨_, _, rfl, rfl, _, _, rfl, rfl, ⟨by decide, by decide, by decide⟩, _, rfl, _, _, rfl, rfl, _, _, rfl, _, rfl, few (by simp), ?_⟩⟩⟩⟩⟩⟩
      refine ⟨_, rfl, p, 11, rfl, I8.bag, by decide, by decide, fun st M9 st0 st1 b9 f9 => ?_⟩
      have I9 := I8.take b9 fun q _ hq => f9 q hq
      exact asked_loop (as := [1 + (j : Int), 1 + j + 5, 1 + j + 3, 1 + j + 1, 1 + j, 1 + j + 2, 1 + j + 4, 10 ^ 6, (if 1 + (j : Int) - 5 > 1 then 1 + j - 5 else 1), 1, 0]) rfl hzok hz6 I9 rfl fun M' z6 z7 z8 z9 z10 z11 z12 z13 I' => ⟨bs, _, _, _, _, _, _, _, _, _, I', rfl⟩
  · rintro τ M' ⟨bs, x5, x6, x7, x8, x9, x10, x11, x12, x13, I, rfl⟩
    exact k M'
end K55

set_option Elab.async false
set_option linter.all false
set_option maxRecDepth 100000
set_option maxHeartbeats 4000000
namespace K55
open PySem PySem.Spec PyProof.Rows L2 D
def top (i : Nat) : Stmt := PySem.Challenge.pw_placedworks_k55_silent.main.body.getD i (.Pass ⟨0, 0, 0, 0⟩)
abbrev s_l_bag : Stmt := top 7
abbrev s_Hearing_init : Stmt := inClass (top 5) 0
abbrev s_l_take : Stmt := top 8
abbrev s_Hearing_heard : Stmt := inClass (top 5) 2
abbrev s_l_beat : Stmt := top 9
abbrev s_thing_copied : Stmt := top 3
abbrev s_Hearing_hear : Stmt := inClass (top 5) 1
abbrev s_l_due : Stmt := top 10
abbrev s_law : Stmt := top 11
structure Env (K : PySem.W.Frag) (mg : Str → Option Value) : Prop where
  k_Hearing : Cls K C_Hearing
  m_Hearing : mg "Hearing" = some (.ref C_Hearing)
  n_Hearing_newest : NoAttr K C_Hearing "newest"
  b_abs : mg "abs" = none
  b_dict : mg "dict" = none
  b_int : mg "int" = none
  b_isinstance : mg "isinstance" = none
  b_len : mg "len" = none
  b_list : mg "list" = none
  b_max : mg "max" = none
  b_range : mg "range" = none
  b_sorted : mg "sorted" = none
  b_tuple : mg "tuple" = none
  c_QUIET : ∃ t, mg "QUIET" = some (.int 3 t)
section
variable {P : Program} {w : World} {K : PySem.W.Frag} {mg : Str → Option Value} {base : Heap}
theorem ndc_0 : (["_law_cell"] : List Str).Nodup := by decide +kernel
theorem sc_l_bag : FnScope N_l_bag ["_law_script"] (defScope s_l_bag) := ⟨rfl, rfl, rfl, by decide +kernel, rfl, by decide +kernel, by decide +kernel⟩
set_option maxHeartbeats 0 in
theorem ok_l_bag {f : Addr} {fd : FuncData} (E : Env K mg) (F : Fn K mg "_law_bag" s_l_bag ["_law_script"] f fd) :
    FnOk P w K mg base CX0 1 f fd ["_law_script"] (upSp K sp_l_bag) := by
  refine fun_ok (t := t_l_bag) F.fn sc_l_bag len_l_bag (fun cdv A outer s H E' hr => ?_) read_l_bag
  refine Jd.h ?_
  exact Q.pssd_one (Q.psd_ret (Q.pd_lstM (Q.pac (Q.pd_int) (Q.pac (Q.pd_int) (Q.pac (Q.pd_int) (Q.pac (Q.pd_lc rfl (lcOk (own := (["_law_cell"] : List Str)) (fr := []) rfl) (Q.pid_items (Q.pd_slice (Q.dv 0) (Q.pod_none) (Q.pod_some (Q.pd_int)))) (fun _ _ _ _ _ _ => Q.pgd_name (i := 0) ndc_0 rfl (Or.inl rfl)) (fun _ _ _ _ _ _ => Q.ptsd_nil) (fun _ _ _ _ _ _ => Q.pcB call_abs cd_abs rfl E.b_abs bb_abs (Q.pac (Q.dv 0) (Q.pad_nil)))) (Q.pad_nil)))))))
theorem sc_Hearing_init : FnScope N_Hearing_init ["self"] (defScope s_Hearing_init) := ⟨rfl, rfl, rfl, by decide +kernel, rfl, by decide +kernel, by decide +kernel⟩
set_option maxHeartbeats 0 in
theorem ok_Hearing_init {f : Addr} {fd : FuncData} (E : Env K mg) (F : Mi K C_Hearing "Hearing.__init__" s_Hearing_init ["self"] f fd) :
    FnOk P w K mg base CX0 1 f fd ["self"] (upSp K sp_Hearing_init) := by
  refine fun_ok (t := t_Hearing_init) F.fn sc_Hearing_init len_Hearing_init (fun cdv A outer s H E' hr => ?_) read_Hearing_init
  refine Jd.h ?_
  exact Q.pssd_one (Q.psd_fld E.k_Hearing E.n_Hearing_newest (Q.dv 0) (Q.pd_newDic))
theorem sc_l_take : FnScope N_l_take ["_law_bag_here", "_law_many"] (defScope s_l_take) := ⟨rfl, rfl, rfl, by decide +kernel, rfl, by decide +kernel, by decide +kernel⟩
set_option maxHeartbeats 0 in
theorem ok_l_take {f : Addr} {fd : FuncData} (E : Env K mg) (F : Fn K mg "_law_take" s_l_take ["_law_bag_here", "_law_many"] f fd) :
    FnOk P w K mg base CX0 1 f fd ["_law_bag_here", "_law_many"] (upSp K sp_l_take) := by
  refine fun_ok (t := t_l_take) F.fn sc_l_take len_l_take (fun cdv A outer s H E' hr => ?_) read_l_take
  refine Jd.h ?_
  exact Q.pssd_cons (Q.psd_if (Q.ptd_cmp (op_eqD hr) opd_eq (Q.pd_ix ix_seq opd_ix (Q.dv 0) (Q.pd_int)) (Q.pd_int))
      (Q.pssd_cons (Q.psd_set (i := 2) sc_l_take.nd rfl (Or.inl rfl) (Q.pd_int)) <|
      Q.pssd_cons (Q.psd_if (Q.ptd_cmp op_lt opd_lt (Q.pd_ix ix_seq opd_ix (Q.dv 0) (Q.pd_int)) (Q.pcB call_len cd_len rfl E.b_len bb_len (Q.pac (Q.pd_ix ix_seq opd_ix (Q.dv 0) (Q.pd_int)) (Q.pad_nil))))
        (Q.pssd_one (Q.psd_set (i := 2) sc_l_take.nd rfl (Or.inl rfl) (Q.pd_ix ix_seq opd_ix (Q.pd_ix ix_seq opd_ix (Q.dv 0) (Q.pd_int)) (Q.pd_ix ix_seq opd_ix (Q.dv 0) (Q.pd_int)))))
        (Q.pssd_nil)) <|
      Q.pssd_cons (Q.psd_augS (Q.dv 0) (Q.pd_int) (Q.pd_int) ip_add) <|
      Q.pssd_cons (Q.psd_if (Q.ptd_cmp op_ge opd_ge (Q.dv 2) (Q.pd_int))
        (Q.pssd_one (Q.psd_asg (Q.dv 2) (Q.pgd_sub (Q.dv 0) (Q.pd_int))))
        (Q.pssd_nil)) <|
      Q.pssd_one (Q.psd_asg (Q.pd_op op_mod opd_mod (Q.pd_op op_add2 opd_add2 (Q.pd_op op_add2 opd_add2 (Q.pd_op op_mul opd_mul (Q.pd_ix ix_seq opd_ix (Q.dv 0) (Q.pd_int)) (Q.pd_int)) (Q.pd_op op_mod opd_mod (Q.dv 2) (Q.pd_int))) (Q.pd_op op_mul opd_mul (Q.pd_int) (Q.pd_ix ix_seq opd_ix (Q.dv 0) (Q.pd_int)))) (Q.pd_int)) (Q.pgd_sub (Q.dv 0) (Q.pd_int))))
      (Q.pssd_nil)) <|
    Q.pssd_cons (Q.psd_if (Q.ptd_cmp op_gt opd_gt (Q.pd_ix ix_seq opd_ix (Q.dv 0) (Q.pd_int)) (Q.pd_int))
      (Q.pssd_cons (Q.psd_set (i := 3) sc_l_take.nd rfl (Or.inl rfl) (Q.pd_op op_mod opd_mod (Q.pd_ix ix_seq opd_ix (Q.dv 0) (Q.pd_int)) (Q.dv 1))) <|
      Q.pssd_cons (Q.psd_asg (Q.pd_op op_fdiv opd_div (Q.pd_ix ix_seq opd_ix (Q.dv 0) (Q.pd_int)) (Q.dv 1)) (Q.pgd_sub (Q.dv 0) (Q.pd_int))) <|
      Q.pssd_one (Q.psd_ret (Q.dv 3)))
      (Q.pssd_nil)) <|
    Q.pssd_cons (Q.psd_set (i := 4) sc_l_take.nd rfl (Or.inl rfl) (Q.pd_op op_mod opd_mod (Q.pd_op op_mul opd_mul (Q.pd_op op_add2 opd_add2 (Q.pd_ix ix_seq opd_ix (Q.dv 0) (Q.pd_int)) (Q.pd_int)) (Q.pd_int)) (Q.pd_int))) <|
    Q.pssd_cons (Q.psd_set (i := 5) sc_l_take.nd rfl (Or.inl rfl) (Q.pd_op op_mod opd_mod (Q.pd_op op_mul opd_mul (Q.pd_op op_mod opd_mod (Q.pd_op op_mul opd_mul (Q.dv 4) (Q.dv 4)) (Q.pd_int)) (Q.pd_int)) (Q.pd_int))) <|
    Q.pssd_cons (Q.psd_if (Q.ptd_cmp op_gt opd_gt (Q.dv 1) (Q.pd_int))
      (Q.pssd_one (Q.psd_ret (Q.pd_op op_mod opd_mod (Q.pd_op op_add2 opd_add2 (Q.pd_op op_mul opd_mul (Q.dv 5) (Q.pd_int)) (Q.dv 4)) (Q.dv 1))))
      (Q.pssd_nil)) <|
    Q.pssd_one (Q.psd_ret (Q.pd_op op_mod opd_mod (Q.pd_op op_fdiv opd_div (Q.dv 5) (Q.pd_int)) (Q.dv 1)))
theorem ndc_1 : (["machine", "beat", "turn"] : List Str).Nodup := by decide +kernel
theorem sc_Hearing_heard : FnScope N_Hearing_heard ["self", "turn"] (defScope s_Hearing_heard) := ⟨rfl, rfl, rfl, by decide +kernel, rfl, by decide +kernel, by decide +kernel⟩
set_option maxHeartbeats 0 in
theorem ok_Hearing_heard {f : Addr} {fd : FuncData} (E : Env K mg) (F : Mf K C_Hearing "heard" "Hearing.heard" s_Hearing_heard ["self", "turn"] f fd) :
    FnOk P w K mg base CX0 1 f fd ["self", "turn"] (upSp K sp_Hearing_heard) := by
  refine fun_ok (t := t_Hearing_heard) F.fn sc_Hearing_heard len_Hearing_heard (fun cdv A outer s H E' hr => ?_) read_Hearing_heard
  refine Jd.h ?_
  exact Q.pssd_one (Q.psd_ret (Q.pcB call_sortedS cd_sortS rfl E.b_sorted bb_sorted (Q.pac (Q.pd_still (Q.pd_lc rfl (lcOk (own := (["machine", "beat"] : List Str)) (fr := [1]) rfl) (Q.pid_ditems (Q.pd_fld E.k_Hearing E.n_Hearing_newest (Q.dv 0))) (fun _ _ _ _ _ _ => Q.pgd_tup rfl (Q.pgsd_cons (Q.pgd_name (i := 0) ndc_1 rfl (Or.inl rfl)) (Q.pgsd_cons (Q.pgd_name (i := 1) ndc_1 rfl (Or.inl rfl)) (Q.pgsd_nil)))) (fun _ _ _ _ _ _ => Q.ptsd_one (Q.ptd_cmp op_le2 opd_le2 (Q.pd_op op_sub opd_sub (Q.dv 2) (Q.pd_ix ix_seq opd_ix (Q.dv 1) (Q.pd_int))) (Q.pd_globI rfl (E.c_QUIET).choose_spec))) (fun _ _ _ _ _ _ => Q.dv 0))) (Q.pad_nil))))
theorem ndc_2 : (["_law_number", "_law_bag_here"] : List Str).Nodup := by decide +kernel
theorem ndc_3 : (["_law_number", "_law_bag_here"] : List Str).Nodup := by decide +kernel
theorem sc_l_beat : FnScope N_l_beat ["_law_bag_here", "_law_name", "_law_turn"] (defScope s_l_beat) := ⟨rfl, rfl, rfl, by decide +kernel, rfl, by decide +kernel, by decide +kernel⟩
set_option maxHeartbeats 0 in
theorem ok_l_beat {f : Addr} {fd : FuncData} (E : Env K mg) (F : Fn K mg "_law_beat" s_l_beat ["_law_bag_here", "_law_name", "_law_turn"] f fd)
    {f_l_take : Addr} {fd_l_take : FuncData} (G_l_take : Fn K mg "_law_take" s_l_take ["_law_bag_here", "_law_many"] f_l_take fd_l_take) (O_l_take : FnOk P w K mg base CX0 1 f_l_take fd_l_take ["_law_bag_here", "_law_many"] (upSp K sp_l_take)) :
    FnOk P w K mg base CX0 2 f fd ["_law_bag_here", "_law_name", "_law_turn"] (upSp K sp_l_beat) := by
  refine fun_ok (t := t_l_beat sp_l_take) F.fn sc_l_beat len_l_beat (fun cdv A outer s H E' hr => ?_) read_l_beat
  refine Jd.h ?_
  exact Q.pssd_cons (Q.psd_set (i := 3) sc_l_beat.nd rfl (Or.inl rfl) (Q.pd_slice (Q.pd_lc rfl (lcOk (own := (["_law_number"] : List Str)) (fr := [0]) rfl) (Q.pid_range2 rfl E.b_range (Q.pac (Q.pd_int) (Q.pac (Q.pd_int) (Q.pad_nil)))) (fun _ _ _ _ _ _ => Q.pgd_name (i := 0) ndc_2 rfl (Or.inl rfl)) (fun _ _ _ _ _ _ => Q.ptsd_one (Q.ptd_cmp (op_eqT hr) opd_eqT (Q.pcF O_l_take (hr.mono (by decide)) rfl G_l_take.mg G_l_take.fn.kp G_l_take.bd (Q.pac (Q.dv 1) (Q.pac (Q.pd_int) (Q.pad_nil)))) (Q.pd_int))) (fun _ _ _ _ _ _ => Q.dv 0)) (Q.pod_none) (Q.pod_some (Q.pd_int)))) <|
    Q.pssd_cons (Q.psd_setLC (i := 4) sc_l_beat.nd rfl (Or.inl rfl) rfl (lcOk (own := (["_law_number"] : List Str)) (fr := [0]) rfl) (Q.pid_items (Q.dv 3)) (fun _ _ _ _ _ _ => Q.pgd_name (i := 0) ndc_3 rfl (Or.inl rfl)) (fun _ _ _ _ _ _ => Q.ptsd_nil) (fun _ _ _ _ _ _ => Q.pd_tup (Q.pac (Q.dv 0) (Q.pac (Q.pd_cmp (op_eqT hr) opd_eqT (Q.pcF O_l_take (hr.mono (by decide)) rfl G_l_take.mg G_l_take.fn.kp G_l_take.bd (Q.pac (Q.dv 1) (Q.pac (Q.pd_int) (Q.pad_nil)))) (Q.pd_int)) (Q.pad_nil))))) <|
    Q.pssd_one (Q.psd_ret (Q.pd_tup (Q.pac (Q.dv 1) (Q.pac (Q.pd_op op_add2 opd_add2 (Q.pd_int) (Q.pcF O_l_take (hr.mono (by decide)) rfl G_l_take.mg G_l_take.fn.kp G_l_take.bd (Q.pac (Q.dv 0) (Q.pac (Q.pd_int) (Q.pad_nil))))) (Q.pac (Q.dv 2) (Q.pac (Q.pcF O_l_take (hr.mono (by decide)) rfl G_l_take.mg G_l_take.fn.kp G_l_take.bd (Q.pac (Q.dv 0) (Q.pac (Q.pd_op op_add2 opd_add2 (Q.dv 2) (Q.pd_int)) (Q.pad_nil)))) (Q.pac (Q.dv 4) (Q.pad_nil))))))))
theorem ndc_4 : (["each"] : List Str).Nodup := by decide +kernel
theorem ndc_5 : (["each"] : List Str).Nodup := by decide +kernel
theorem sc_thing_copied : FnScope N_thing_copied ["thing"] (defScope s_thing_copied) := ⟨rfl, rfl, rfl, by decide +kernel, rfl, by decide +kernel, by decide +kernel⟩
set_option maxHeartbeats 0 in
theorem ok_thing_copied {f : Addr} {fd : FuncData} (E : Env K mg) (F : Fn K mg "thing_copied" s_thing_copied ["thing"] f fd) {j : Nat} (O_self : FnOk P w K mg base CX0 j f fd ["thing"] (upSp K (sp_thing_copied j))) :
    FnOk P w K mg base CX0 (j + 1) f fd ["thing"] (upSp K (sp_thing_copied (j + 1))) := by
  refine fun_ok (t := t_thing_copied (sp_thing_copied j)) F.fn sc_thing_copied (len_thing_copied _) (fun cdv A outer s H E' hr => ?_) (read_thing_copied j)
  refine Jd.h ?_
  exact Q.pssd_cons (Q.psd_if (Q.ptd_val (Q.pcB call_isiT cd_isiT rfl E.b_isinstance bb_isinstance (Q.pac (Q.dv 0) (Q.pac (Q.pd_type rfl E.b_tuple bt_tuple) (Q.pad_nil)))))
      (Q.pssd_one (Q.psd_ret (Q.pcT call_tuple_of cd_tupleOf rfl E.b_tuple bt_tuple (Q.pac (Q.pd_lc rfl (lcOk (own := (["each"] : List Str)) (fr := []) rfl) (Q.pid_items (Q.dv 0)) (fun _ _ _ _ _ _ => Q.pgd_name (i := 0) ndc_4 rfl (Or.inl rfl)) (fun _ _ _ _ _ _ => Q.ptsd_nil) (fun _ _ _ _ _ _ => Q.pcF O_self (hr.mono (Nat.le_refl _)) rfl F.mg F.fn.kp F.bd (Q.pac (Q.dv 0) (Q.pad_nil)))) (Q.pad_nil)))))
      (Q.pssd_nil)) <|
    Q.pssd_cons (Q.psd_if (Q.ptd_val (Q.pcB call_isiT cd_isiT rfl E.b_isinstance bb_isinstance (Q.pac (Q.dv 0) (Q.pac (Q.pd_type rfl E.b_list bt_list) (Q.pad_nil)))))
      (Q.pssd_one (Q.psd_ret (Q.pd_lc rfl (lcOk (own := (["each"] : List Str)) (fr := []) rfl) (Q.pid_items (Q.dv 0)) (fun _ _ _ _ _ _ => Q.pgd_name (i := 0) ndc_5 rfl (Or.inl rfl)) (fun _ _ _ _ _ _ => Q.ptsd_nil) (fun _ _ _ _ _ _ => Q.pcF O_self (hr.mono (Nat.le_refl _)) rfl F.mg F.fn.kp F.bd (Q.pac (Q.dv 0) (Q.pad_nil))))))
      (Q.pssd_nil)) <|
    Q.pssd_cons (Q.psd_if (Q.ptd_val (Q.pcB call_isiT cd_isiT rfl E.b_isinstance bb_isinstance (Q.pac (Q.dv 0) (Q.pac (Q.pd_type rfl E.b_dict bt_dict) (Q.pad_nil)))))
      (Q.pssd_one (Q.psd_ret (Q.pd_never)))
      (Q.pssd_nil)) <|
    Q.pssd_one (Q.psd_ret (Q.dv 0))
theorem sc_Hearing_hear : FnScope N_Hearing_hear ["self", "beat"] (defScope s_Hearing_hear) := ⟨rfl, rfl, rfl, by decide +kernel, rfl, by decide +kernel, by decide +kernel⟩
set_option maxHeartbeats 0 in
theorem ok_Hearing_hear {f : Addr} {fd : FuncData} (E : Env K mg) (F : Mf K C_Hearing "hear" "Hearing.hear" s_Hearing_hear ["self", "beat"] f fd)
    {f_thing_copied : Addr} {fd_thing_copied : FuncData} (G_thing_copied : Fn K mg "thing_copied" s_thing_copied ["thing"] f_thing_copied fd_thing_copied) (O_thing_copied : FnOk P w K mg base CX0 4 f_thing_copied fd_thing_copied ["thing"] (upSp K sp_thing_copied_c)) :
    FnOk P w K mg base CX0 5 f fd ["self", "beat"] (upSp K sp_Hearing_hear) := by
  refine fun_ok (t := t_Hearing_hear sp_thing_copied_c) F.fn sc_Hearing_hear len_Hearing_hear (fun cdv A outer s H E' hr => ?_) read_Hearing_hear
  refine Jd.h ?_
  exact Q.pssd_cons (Q.psd_asg (Q.dv 1) (Q.pgd_tup rfl (Q.pgsd_cons (Q.pgd_name (i := 2) sc_Hearing_hear.nd rfl (Or.inl rfl)) (Q.pgsd_cons (Q.pgd_name (i := 3) sc_Hearing_hear.nd rfl (Or.inl rfl)) (Q.pgsd_cons (Q.pgd_name (i := 4) sc_Hearing_hear.nd rfl (Or.inl rfl)) (Q.pgsd_cons (Q.pgd_name (i := 5) sc_Hearing_hear.nd rfl (Or.inl rfl)) (Q.pgsd_cons (Q.pgd_name (i := 6) sc_Hearing_hear.nd rfl (Or.inl rfl)) (Q.pgsd_nil)))))))) <|
    Q.pssd_cons (Q.psd_if (Q.ptd_w (Q.pwd_and (Q.ptd_din (hu_of hr) (Q.dv 2) (Q.pd_fld E.k_Hearing E.n_Hearing_newest (Q.dv 0))) (Q.pwd_and1 (Q.ptd_cmp op_le2 opd_le2 (Q.dv 4) (Q.pd_ix ix_seq opd_ix (Q.pd_dget (hu_of hr) (Q.pd_fld E.k_Hearing E.n_Hearing_newest (Q.dv 0)) (Q.dv 2)) (Q.pd_int))))))
      (Q.pssd_one (Q.psd_ret (Q.pd_bl)))
      (Q.pssd_nil)) <|
    Q.pssd_cons (Q.psd_dput (hu_of hr) (Q.pd_fld E.k_Hearing E.n_Hearing_newest (Q.dv 0)) (Q.dv 2) (Q.pcF O_thing_copied (hr.mono (by decide)) rfl G_thing_copied.mg G_thing_copied.fn.kp G_thing_copied.bd (Q.pac (Q.dv 1) (Q.pad_nil)))) <|
    Q.pssd_one (Q.psd_ret (Q.pd_bl))
theorem ndc_6 : (["_law_name", "_law_turn", "_law_newest"] : List Str).Nodup := by decide +kernel
theorem sc_l_due : FnScope N_l_due ["_law_newest", "_law_turn"] (defScope s_l_due) := ⟨rfl, rfl, rfl, by decide +kernel, rfl, by decide +kernel, by decide +kernel⟩
set_option maxHeartbeats 0 in
theorem ok_l_due {f : Addr} {fd : FuncData} (E : Env K mg) (F : Fn K mg "_law_due" s_l_due ["_law_newest", "_law_turn"] f fd) :
    FnOk P w K mg base CX0 1 f fd ["_law_newest", "_law_turn"] (upSp K sp_l_due) := by
  refine fun_ok (t := t_l_due) F.fn sc_l_due len_l_due (fun cdv A outer s H E' hr => ?_) read_l_due
  refine Jd.h ?_
  exact Q.pssd_one (Q.psd_ret (Q.pcB call_sortedS cd_sortS rfl E.b_sorted bb_sorted (Q.pac (Q.pd_still (Q.pd_lc rfl (lcOk (own := (["_law_name"] : List Str)) (fr := [1, 0]) rfl) (Q.pid_dkeys (Q.dv 0)) (fun _ _ _ _ _ _ => Q.pgd_name (i := 0) ndc_6 rfl (Or.inl rfl)) (fun _ _ _ _ _ _ => Q.ptsd_one (Q.ptd_cmp op_le2 opd_le2 (Q.pd_op op_sub opd_sub (Q.dv 1) (Q.pd_dget (hu_of hr) (Q.dv 2) (Q.dv 0))) (Q.pd_int))) (fun _ _ _ _ _ _ => Q.dv 0))) (Q.pad_nil))))
theorem sc_law : FnScope N_law ["_law_script"] (defScope s_law) := ⟨rfl, rfl, rfl, by decide +kernel, rfl, by decide +kernel, by decide +kernel⟩
set_option maxHeartbeats 0 in
theorem ok_law {f : Addr} {fd : FuncData} (E : Env K mg) (F : Fn K mg "law" s_law ["_law_script"] f fd)
    {f_l_bag : Addr} {fd_l_bag : FuncData} (G_l_bag : Fn K mg "_law_bag" s_l_bag ["_law_script"] f_l_bag fd_l_bag) (O_l_bag : FnOk P w K mg base CX0 1 f_l_bag fd_l_bag ["_law_script"] (upSp K sp_l_bag))
    {f_Hearing_init : Addr} {fd_Hearing_init : FuncData} (G_Hearing_init : Mi K C_Hearing "Hearing.__init__" s_Hearing_init ["self"] f_Hearing_init fd_Hearing_init) (O_Hearing_init : FnOk P w K mg base CX0 1 f_Hearing_init fd_Hearing_init ["self"] (upSp K sp_Hearing_init))
    {f_l_take : Addr} {fd_l_take : FuncData} (G_l_take : Fn K mg "_law_take" s_l_take ["_law_bag_here", "_law_many"] f_l_take fd_l_take) (O_l_take : FnOk P w K mg base CX0 1 f_l_take fd_l_take ["_law_bag_here", "_law_many"] (upSp K sp_l_take))
    {f_Hearing_heard : Addr} {fd_Hearing_heard : FuncData} (G_Hearing_heard : Mf K C_Hearing "heard" "Hearing.heard" s_Hearing_heard ["self", "turn"] f_Hearing_heard fd_Hearing_heard) (O_Hearing_heard : FnOk P w K mg base CX0 1 f_Hearing_heard fd_Hearing_heard ["self", "turn"] (upSp K sp_Hearing_heard))
    {f_l_beat : Addr} {fd_l_beat : FuncData} (G_l_beat : Fn K mg "_law_beat" s_l_beat ["_law_bag_here", "_law_name", "_law_turn"] f_l_beat fd_l_beat) (O_l_beat : FnOk P w K mg base CX0 2 f_l_beat fd_l_beat ["_law_bag_here", "_law_name", "_law_turn"] (upSp K sp_l_beat))
    {f_Hearing_hear : Addr} {fd_Hearing_hear : FuncData} (G_Hearing_hear : Mf K C_Hearing "hear" "Hearing.hear" s_Hearing_hear ["self", "beat"] f_Hearing_hear fd_Hearing_hear) (O_Hearing_hear : FnOk P w K mg base CX0 5 f_Hearing_hear fd_Hearing_hear ["self", "beat"] (upSp K sp_Hearing_hear))
    {f_l_due : Addr} {fd_l_due : FuncData} (G_l_due : Fn K mg "_law_due" s_l_due ["_law_newest", "_law_turn"] f_l_due fd_l_due) (O_l_due : FnOk P w K mg base CX0 1 f_l_due fd_l_due ["_law_newest", "_law_turn"] (upSp K sp_l_due)) :
    FnOk P w K mg base CX0 6 f fd ["_law_script"] (upSp K sp_law) := by
  refine fun_ok (t := t_law sp_l_bag sp_Hearing_init sp_l_take sp_Hearing_heard sp_l_beat sp_Hearing_hear sp_l_due) F.fn sc_law len_law (fun cdv A outer s H E' hr => ?_) read_law
  refine Jd.h ?_
  exact Q.pssd_cons (Q.psd_set (i := 1) sc_law.nd rfl (Or.inl rfl) (Q.pcF O_l_bag (hr.mono (by decide)) rfl G_l_bag.mg G_l_bag.fn.kp G_l_bag.bd (Q.pac (Q.dv 0) (Q.pad_nil)))) <|
    Q.pssd_cons (Q.psd_set (i := 2) sc_law.nd rfl (Or.inl rfl) (Q.pd_slice (Q.pd_lst (Q.pac (Q.pd_str) (Q.pac (Q.pd_str) (Q.pac (Q.pd_str) (Q.pac (Q.pd_str) (Q.pac (Q.pd_str) (Q.pac (Q.pd_str) (Q.pad_nil)))))))) (Q.pod_none) (Q.pod_some (Q.pd_op op_add2 opd_add2 (Q.pd_int) (Q.pcF O_l_take (hr.mono (by decide)) rfl G_l_take.mg G_l_take.fn.kp G_l_take.bd (Q.pac (Q.dv 1) (Q.pac (Q.pd_int) (Q.pad_nil)))))))) <|
    Q.pssd_cons (Q.psd_par (i := 3) (j := 4) rfl sc_law.nd rfl rfl (by decide) rfl rfl (Q.pac (Q.pd_make0 G_Hearing_init.mi O_Hearing_init (hr.mono (by decide)) rfl E.m_Hearing G_Hearing_init.bd) (Q.pac (Q.pd_newDic) (Q.pad_nil)))) <|
    Q.pssd_cons (Q.psd_if (Q.ptd_w (Q.pwd_or (Q.ptd_cmp (op_neT hr) opd_neT (Q.pd_meth (Q.dv 3) E.k_Hearing G_Hearing_heard.me O_Hearing_heard (hr.mono (by decide)) G_Hearing_heard.bd (Q.pac (Q.pd_int) (Q.pad_nil))) (Q.pd_lst (Q.pad_nil))) (Q.pwd_or1 (Q.ptd_cmp (op_neT hr) opd_neT (Q.pd_globI rfl (E.c_QUIET).choose_spec) (Q.pd_int)))))
      (Q.pssd_one (Q.psd_ret (Q.pd_bl)))
      (Q.pssd_nil)) <|
    Q.pssd_cons (Q.psd_for PassesOwn.never rfl (Q.pid_range2 rfl E.b_range (Q.pac (Q.pd_int) (Q.pac (Q.pd_op op_add2 opd_add2 (Q.pd_int) (Q.pcF O_l_take (hr.mono (by decide)) rfl G_l_take.mg G_l_take.fn.kp G_l_take.bd (Q.pac (Q.dv 1) (Q.pac (Q.pd_int) (Q.pad_nil))))) (Q.pad_nil)))) (Q.pgd_name (i := 5) sc_law.nd rfl (Or.inl rfl))
      (Q.pssd_cons (Q.psd_for PassesOwn.never rfl (Q.pid_range1 rfl E.b_range (Q.pac (Q.pcF O_l_take (hr.mono (by decide)) rfl G_l_take.mg G_l_take.fn.kp G_l_take.bd (Q.pac (Q.dv 1) (Q.pac (Q.pd_int) (Q.pad_nil)))) (Q.pad_nil))) (Q.pgd_name (i := 6) sc_law.nd rfl (Or.inl rfl))
        (Q.pssd_cons (Q.psd_set (i := 7) sc_law.nd rfl (Or.inl rfl) (Q.pd_ix ix_seq opd_ix (Q.dv 2) (Q.pd_op op_mul opd_mul (Q.pcF O_l_take (hr.mono (by decide)) rfl G_l_take.mg G_l_take.fn.kp G_l_take.bd (Q.pac (Q.dv 1) (Q.pac (Q.pcB call_len cd_len rfl E.b_len bb_len (Q.pac (Q.dv 2) (Q.pad_nil))) (Q.pad_nil)))) (Q.pcT call_int1 cd_int rfl E.b_int bt_int (Q.pac (Q.pd_cmp op_gt opd_gt (Q.pcF O_l_take (hr.mono (by decide)) rfl G_l_take.mg G_l_take.fn.kp G_l_take.bd (Q.pac (Q.dv 1) (Q.pac (Q.pd_int) (Q.pad_nil)))) (Q.pd_int)) (Q.pad_nil)))))) <|
        Q.pssd_cons (Q.psd_set (i := 8) sc_law.nd rfl (Or.inl rfl) (Q.pcF O_l_beat (hr.mono (by decide)) rfl G_l_beat.mg G_l_beat.fn.kp G_l_beat.bd (Q.pac (Q.dv 1) (Q.pac (Q.dv 7) (Q.pac (Q.pcB (call_max2 rfl) cd_max2 rfl E.b_max bb_max (Q.pac (Q.pd_int) (Q.pac (Q.pd_op op_sub opd_sub (Q.dv 5) (Q.pd_ix ix_seq opd_ix (Q.pd_lst (Q.pac (Q.pd_int) (Q.pac (Q.pd_int) (Q.pac (Q.pd_int) (Q.pac (Q.pd_int) (Q.pac (Q.pd_int) (Q.pac (Q.pd_int) (Q.pad_nil)))))))) (Q.pcF O_l_take (hr.mono (by decide)) rfl G_l_take.mg G_l_take.fn.kp G_l_take.bd (Q.pac (Q.dv 1) (Q.pac (Q.pd_int) (Q.pad_nil)))))) (Q.pad_nil)))) (Q.pad_nil)))))) <|
        Q.pssd_cons (Q.psd_for PassesOwn.never rfl (Q.pid_range1 rfl E.b_range (Q.pac (Q.pd_op op_add2 opd_add2 (Q.pd_int) (Q.pcT call_int1 cd_int rfl E.b_int bt_int (Q.pac (Q.pd_cmp (op_eqT hr) opd_eqT (Q.pcF O_l_take (hr.mono (by decide)) rfl G_l_take.mg G_l_take.fn.kp G_l_take.bd (Q.pac (Q.dv 1) (Q.pac (Q.pd_int) (Q.pad_nil)))) (Q.pd_int)) (Q.pad_nil)))) (Q.pad_nil))) (Q.pgd_name (i := 9) sc_law.nd rfl (Or.inl rfl))
          (Q.pssd_one (Q.psd_expr (Q.pd_meth (Q.dv 3) E.k_Hearing G_Hearing_hear.me O_Hearing_hear (hr.mono (by decide)) G_Hearing_hear.bd (Q.pac (Q.dv 8) (Q.pad_nil)))))) <|
        Q.pssd_one (Q.psd_dput (hu_of hr) (Q.dv 4) (Q.dv 7) (Q.pcB (call_max2 rfl) cd_max2 rfl E.b_max bb_max (Q.pac (Q.pd_get2 (hu_of hr) (Q.dv 4) (Q.dv 7) (Q.pd_int)) (Q.pac (Q.pd_ix ix_seq opd_ix (Q.dv 8) (Q.pd_int)) (Q.pad_nil))))))) <|
      Q.pssd_cons (Q.psd_set (i := 10) sc_law.nd rfl (Or.inl rfl) (Q.pd_lst (Q.pac (Q.dv 5) (Q.pac (Q.pd_op op_add2 opd_add2 (Q.dv 5) (Q.pd_int)) (Q.pac (Q.pd_op op_add2 opd_add2 (Q.dv 5) (Q.pd_int)) (Q.pac (Q.pd_op op_add2 opd_add2 (Q.dv 5) (Q.pd_int)) (Q.pac (Q.dv 5) (Q.pac (Q.pd_op op_add2 opd_add2 (Q.dv 5) (Q.pd_int)) (Q.pac (Q.pd_op op_add2 opd_add2 (Q.dv 5) (Q.pd_int)) (Q.pac (Q.pd_op op_pow opd_pow (Q.pd_int) (Q.pd_int)) (Q.pac (Q.pcB (call_max2 rfl) cd_max2 rfl E.b_max bb_max (Q.pac (Q.pd_int) (Q.pac (Q.pd_op op_sub opd_sub (Q.dv 5) (Q.pd_int)) (Q.pad_nil)))) (Q.pac (Q.pd_int) (Q.pac (Q.pd_int) (Q.pad_nil)))))))))))))) <|
      Q.pssd_cons (Q.psd_set (i := 11) sc_law.nd rfl (Or.inl rfl) (Q.pcF O_l_take (hr.mono (by decide)) rfl G_l_take.mg G_l_take.fn.kp G_l_take.bd (Q.pac (Q.dv 1) (Q.pac (Q.pd_int) (Q.pad_nil))))) <|
      Q.pssd_one (Q.psd_for PassesOwn.never rfl (Q.pid_items (Q.pd_cat (Q.pd_slice (Q.dv 10) (Q.pod_some (Q.dv 11)) (Q.pod_none)) (Q.pd_slice (Q.dv 10) (Q.pod_none) (Q.pod_some (Q.dv 11))))) (Q.pgd_name (i := 12) sc_law.nd rfl (Or.inl rfl))
        (Q.pssd_cons (Q.psd_set (i := 13) sc_law.nd rfl (Or.inl rfl) (Q.pd_meth (Q.dv 3) E.k_Hearing G_Hearing_heard.me O_Hearing_heard (hr.mono (by decide)) G_Hearing_heard.bd (Q.pac (Q.dv 12) (Q.pad_nil)))) <|
        Q.pssd_cons (Q.psd_if (Q.ptd_w (Q.pwd_or (Q.ptd_cmp (op_neT hr) opd_neT (Q.dv 13) (Q.pcF O_l_due (hr.mono (by decide)) rfl G_l_due.mg G_l_due.fn.kp G_l_due.bd (Q.pac (Q.dv 4) (Q.pac (Q.dv 12) (Q.pad_nil))))) (Q.pwd_or1 (Q.ptd_not (Q.ptd_val (Q.pcB call_isiT cd_isiT rfl E.b_isinstance bb_isinstance (Q.pac (Q.dv 13) (Q.pac (Q.pd_type rfl E.b_list bt_list) (Q.pad_nil)))))))))
          (Q.pssd_one (Q.psd_ret (Q.pd_bl)))
          (Q.pssd_nil)) <|
        Q.pssd_cons (Q.psd_expr (Q.pd_append (Q.dv 13) (Q.pd_str))) <|
        Q.pssd_one (Q.psd_expr (Q.pd_reverse (Q.dv 13))))))) <|
    Q.pssd_one (Q.psd_ret (Q.pd_bl))
theorem all_mk {l : PySem.W.OpenLaw} {w : World} {K : PySem.W.Frag} {h : Heap} {mg : Str → Option Value} {fa : Addr} (X : K.In h) (G : h.Ns mainGlobals mg) (hfa : mg "law" = some (.ref fa))
    {f_l_bag : Addr} {oc_l_bag kV_l_bag dc_l_bag pm_l_bag cd_l_bag ct_l_bag : Value} {od_l_bag an_l_bag : Option Addr} {sl_l_bag : Array (Option Value)}
    (a_l_bag : PySem.W.nsIn K mainGlobals "_law_bag" = some (some (.ref f_l_bag))) (l_l_bag : K.lookup f_l_bag = some ⟨oc_l_bag, od_l_bag, .func (PySem.W.fnOf "_law_bag" "_law_bag" (defArgs s_l_bag) (defBody s_l_bag) (defScope s_l_bag) .none kV_l_bag dc_l_bag pm_l_bag an_l_bag cd_l_bag ct_l_bag), sl_l_bag⟩) (c_l_bag : PySem.W.codeIn K cd_l_bag "_law_bag" = true) (k_l_bag : PySem.W.keepIn K (.ref f_l_bag) = true)
    {f_Hearing_init : Addr} {oc_Hearing_init kV_Hearing_init dc_Hearing_init pm_Hearing_init cd_Hearing_init ct_Hearing_init : Value} {od_Hearing_init an_Hearing_init : Option Addr} {sl_Hearing_init : Array (Option Value)}
    (a_Hearing_init : PySem.W.findIn K (.ref C_Hearing) "__init__" = some (some (.ref f_Hearing_init))) (i_Hearing_init : PySem.W.isFn K (.ref f_Hearing_init) = true) (l_Hearing_init : K.lookup f_Hearing_init = some ⟨oc_Hearing_init, od_Hearing_init, .func (PySem.W.fnOf "__init__" "Hearing.__init__" (defArgs s_Hearing_init) (defBody s_Hearing_init) (defScope s_Hearing_init) .none kV_Hearing_init dc_Hearing_init pm_Hearing_init an_Hearing_init cd_Hearing_init ct_Hearing_init), sl_Hearing_init⟩) (c_Hearing_init : PySem.W.codeIn K cd_Hearing_init "Hearing.__init__" = true) (k_Hearing_init : PySem.W.keepIn K (.ref f_Hearing_init) = true)
    {f_l_take : Addr} {oc_l_take kV_l_take dc_l_take pm_l_take cd_l_take ct_l_take : Value} {od_l_take an_l_take : Option Addr} {sl_l_take : Array (Option Value)}
    (a_l_take : PySem.W.nsIn K mainGlobals "_law_take" = some (some (.ref f_l_take))) (l_l_take : K.lookup f_l_take = some ⟨oc_l_take, od_l_take, .func (PySem.W.fnOf "_law_take" "_law_take" (defArgs s_l_take) (defBody s_l_take) (defScope s_l_take) .none kV_l_take dc_l_take pm_l_take an_l_take cd_l_take ct_l_take), sl_l_take⟩) (c_l_take : PySem.W.codeIn K cd_l_take "_law_take" = true) (k_l_take : PySem.W.keepIn K (.ref f_l_take) = true)
    {f_Hearing_heard : Addr} {oc_Hearing_heard kV_Hearing_heard dc_Hearing_heard pm_Hearing_heard cd_Hearing_heard ct_Hearing_heard : Value} {od_Hearing_heard an_Hearing_heard : Option Addr} {sl_Hearing_heard : Array (Option Value)}
    (a_Hearing_heard : PySem.W.findIn K (.ref C_Hearing) "heard" = some (some (.ref f_Hearing_heard))) (i_Hearing_heard : PySem.W.isFn K (.ref f_Hearing_heard) = true) (l_Hearing_heard : K.lookup f_Hearing_heard = some ⟨oc_Hearing_heard, od_Hearing_heard, .func (PySem.W.fnOf "heard" "Hearing.heard" (defArgs s_Hearing_heard) (defBody s_Hearing_heard) (defScope s_Hearing_heard) .none kV_Hearing_heard dc_Hearing_heard pm_Hearing_heard an_Hearing_heard cd_Hearing_heard ct_Hearing_heard), sl_Hearing_heard⟩) (c_Hearing_heard : PySem.W.codeIn K cd_Hearing_heard "Hearing.heard" = true) (k_Hearing_heard : PySem.W.keepIn K (.ref f_Hearing_heard) = true)
    {f_l_beat : Addr} {oc_l_beat kV_l_beat dc_l_beat pm_l_beat cd_l_beat ct_l_beat : Value} {od_l_beat an_l_beat : Option Addr} {sl_l_beat : Array (Option Value)}
    (a_l_beat : PySem.W.nsIn K mainGlobals "_law_beat" = some (some (.ref f_l_beat))) (l_l_beat : K.lookup f_l_beat = some ⟨oc_l_beat, od_l_beat, .func (PySem.W.fnOf "_law_beat" "_law_beat" (defArgs s_l_beat) (defBody s_l_beat) (defScope s_l_beat) .none kV_l_beat dc_l_beat pm_l_beat an_l_beat cd_l_beat ct_l_beat), sl_l_beat⟩) (c_l_beat : PySem.W.codeIn K cd_l_beat "_law_beat" = true) (k_l_beat : PySem.W.keepIn K (.ref f_l_beat) = true)
    {f_thing_copied : Addr} {oc_thing_copied kV_thing_copied dc_thing_copied pm_thing_copied cd_thing_copied ct_thing_copied : Value} {od_thing_copied an_thing_copied : Option Addr} {sl_thing_copied : Array (Option Value)}
    (a_thing_copied : PySem.W.nsIn K mainGlobals "thing_copied" = some (some (.ref f_thing_copied))) (l_thing_copied : K.lookup f_thing_copied = some ⟨oc_thing_copied, od_thing_copied, .func (PySem.W.fnOf "thing_copied" "thing_copied" (defArgs s_thing_copied) (defBody s_thing_copied) (defScope s_thing_copied) .none kV_thing_copied dc_thing_copied pm_thing_copied an_thing_copied cd_thing_copied ct_thing_copied), sl_thing_copied⟩) (c_thing_copied : PySem.W.codeIn K cd_thing_copied "thing_copied" = true) (k_thing_copied : PySem.W.keepIn K (.ref f_thing_copied) = true)
    {f_Hearing_hear : Addr} {oc_Hearing_hear kV_Hearing_hear dc_Hearing_hear pm_Hearing_hear cd_Hearing_hear ct_Hearing_hear : Value} {od_Hearing_hear an_Hearing_hear : Option Addr} {sl_Hearing_hear : Array (Option Value)}
    (a_Hearing_hear : PySem.W.findIn K (.ref C_Hearing) "hear" = some (some (.ref f_Hearing_hear))) (i_Hearing_hear : PySem.W.isFn K (.ref f_Hearing_hear) = true) (l_Hearing_hear : K.lookup f_Hearing_hear = some ⟨oc_Hearing_hear, od_Hearing_hear, .func (PySem.W.fnOf "hear" "Hearing.hear" (defArgs s_Hearing_hear) (defBody s_Hearing_hear) (defScope s_Hearing_hear) .none kV_Hearing_hear dc_Hearing_hear pm_Hearing_hear an_Hearing_hear cd_Hearing_hear ct_Hearing_hear), sl_Hearing_hear⟩) (c_Hearing_hear : PySem.W.codeIn K cd_Hearing_hear "Hearing.hear" = true) (k_Hearing_hear : PySem.W.keepIn K (.ref f_Hearing_hear) = true)
    {f_l_due : Addr} {oc_l_due kV_l_due dc_l_due pm_l_due cd_l_due ct_l_due : Value} {od_l_due an_l_due : Option Addr} {sl_l_due : Array (Option Value)}
    (a_l_due : PySem.W.nsIn K mainGlobals "_law_due" = some (some (.ref f_l_due))) (l_l_due : K.lookup f_l_due = some ⟨oc_l_due, od_l_due, .func (PySem.W.fnOf "_law_due" "_law_due" (defArgs s_l_due) (defBody s_l_due) (defScope s_l_due) .none kV_l_due dc_l_due pm_l_due an_l_due cd_l_due ct_l_due), sl_l_due⟩) (c_l_due : PySem.W.codeIn K cd_l_due "_law_due" = true) (k_l_due : PySem.W.keepIn K (.ref f_l_due) = true)
    {f_law : Addr} {oc_law kV_law dc_law pm_law cd_law ct_law : Value} {od_law an_law : Option Addr} {sl_law : Array (Option Value)}
    (a_law : PySem.W.nsIn K mainGlobals "law" = some (some (.ref f_law))) (l_law : K.lookup f_law = some ⟨oc_law, od_law, .func (PySem.W.fnOf "law" "law" (defArgs s_law) (defBody s_law) (defScope s_law) .none kV_law dc_law pm_law an_law cd_law ct_law), sl_law⟩) (c_law : PySem.W.codeIn K cd_law "law" = true) (k_law : PySem.W.keepIn K (.ref f_law) = true)
    (aC_Hearing : PySem.W.nsIn K mainGlobals "Hearing" = some (some (.ref C_Hearing))) (pg_Hearing : PySem.W.plainGet K C_Hearing Str.empty = true) (hd_Hearing : PySem.W.hasDictIn K C_Hearing = true) (po_Hearing : PySem.W.plainOver K C_Hearing = true) (sa_Hearing : PySem.W.findIn K (.ref C_Hearing) "__setattr__" = some (some (.builtin "object.__setattr__"))) (mk_Hearing : PySem.W.makesIn K C_Hearing = true) (kc_Hearing : PySem.W.keepIn K (.ref C_Hearing) = true)
    (n_Hearing_newest : PySem.W.findIn K (.ref C_Hearing) "newest" = some none)
    (b_abs : PySem.W.nsIn K mainGlobals "abs" = some none)
    (b_dict : PySem.W.nsIn K mainGlobals "dict" = some none)
    (b_int : PySem.W.nsIn K mainGlobals "int" = some none)
    (b_isinstance : PySem.W.nsIn K mainGlobals "isinstance" = some none)
    (b_len : PySem.W.nsIn K mainGlobals "len" = some none)
    (b_list : PySem.W.nsIn K mainGlobals "list" = some none)
    (b_max : PySem.W.nsIn K mainGlobals "max" = some none)
    (b_range : PySem.W.nsIn K mainGlobals "range" = some none)
    (b_sorted : PySem.W.nsIn K mainGlobals "sorted" = some none)
    (b_tuple : PySem.W.nsIn K mainGlobals "tuple" = some none)
    {t_QUIET : Tok} (g_QUIET : PySem.W.nsIn K mainGlobals "QUIET" = some (some (.int 3 t_QUIET))) :
    ∃ fd : FuncData, (∀ (s : Shared) (v : Value), BindsTo s fd ⟨[v], []⟩ [("_law_script", v)]) ∧ ∀ base : Heap, K.In base → base.Ns mainGlobals mg → FnOk l.prog w K mg base CX0 6 fa fd ["_law_script"] (upSp K sp_law) := by
  have e := hfa.symm.trans (PySem.W.mg_of X G a_law)
  cases e
  have E : Env K mg := ⟨⟨pg_Hearing, hd_Hearing, po_Hearing, sa_Hearing⟩, PySem.W.mg_of X G aC_Hearing, n_Hearing_newest, PySem.W.mg_none_of X G b_abs, PySem.W.mg_none_of X G b_dict, PySem.W.mg_none_of X G b_int, PySem.W.mg_none_of X G b_isinstance, PySem.W.mg_none_of X G b_len, PySem.W.mg_none_of X G b_list, PySem.W.mg_none_of X G b_max, PySem.W.mg_none_of X G b_range, PySem.W.mg_none_of X G b_sorted, PySem.W.mg_none_of X G b_tuple, ⟨_, PySem.W.mg_of X G g_QUIET⟩⟩
  have G_l_bag : Fn K mg "_law_bag" s_l_bag ["_law_script"] _ _ := fn_mk X G a_l_bag l_l_bag c_l_bag k_l_bag (fun _ _ _ _ _ _ us hl => match us, hl with | [_], _ => rfl)
  have G_Hearing_init : Mi K C_Hearing "Hearing.__init__" s_Hearing_init ["self"] _ _ := mi_mk a_Hearing_init i_Hearing_init l_Hearing_init c_Hearing_init k_Hearing_init mk_Hearing kc_Hearing (fun _ _ _ _ _ _ us hl => match us, hl with | [_], _ => rfl)
  have G_l_take : Fn K mg "_law_take" s_l_take ["_law_bag_here", "_law_many"] _ _ := fn_mk X G a_l_take l_l_take c_l_take k_l_take (fun _ _ _ _ _ _ us hl => match us, hl with | [_, _], _ => rfl)
  have G_Hearing_heard : Mf K C_Hearing "heard" "Hearing.heard" s_Hearing_heard ["self", "turn"] _ _ := mf_mk a_Hearing_heard i_Hearing_heard l_Hearing_heard c_Hearing_heard k_Hearing_heard (fun _ _ _ _ _ _ us hl => match us, hl with | [_, _], _ => rfl)
  have G_l_beat : Fn K mg "_law_beat" s_l_beat ["_law_bag_here", "_law_name", "_law_turn"] _ _ := fn_mk X G a_l_beat l_l_beat c_l_beat k_l_beat (fun _ _ _ _ _ _ us hl => match us, hl with | [_, _, _], _ => rfl)
  have G_thing_copied : Fn K mg "thing_copied" s_thing_copied ["thing"] _ _ := fn_mk X G a_thing_copied l_thing_copied c_thing_copied k_thing_copied (fun _ _ _ _ _ _ us hl => match us, hl with | [_], _ => rfl)
  have G_Hearing_hear : Mf K C_Hearing "hear" "Hearing.hear" s_Hearing_hear ["self", "beat"] _ _ := mf_mk a_Hearing_hear i_Hearing_hear l_Hearing_hear c_Hearing_hear k_Hearing_hear (fun _ _ _ _ _ _ us hl => match us, hl with | [_, _], _ => rfl)
  have G_l_due : Fn K mg "_law_due" s_l_due ["_law_newest", "_law_turn"] _ _ := fn_mk X G a_l_due l_l_due c_l_due k_l_due (fun _ _ _ _ _ _ us hl => match us, hl with | [_, _], _ => rfl)
  have G_law : Fn K mg "law" s_law ["_law_script"] _ _ := fn_mk X G a_law l_law c_law k_law (fun _ _ _ _ _ _ us hl => match us, hl with | [_], _ => rfl)
  refine ⟨PySem.W.fnOf "law" "law" (defArgs s_law) (defBody s_law) (defScope s_law) .none kV_law dc_law pm_law an_law cd_law ct_law, fun s v => .of_eq rfl, fun base _ _ => ?_⟩
  have O_l_bag := ok_l_bag (P := l.prog) (w := w) (base := base) E G_l_bag
  have O_Hearing_init := ok_Hearing_init (P := l.prog) (w := w) (base := base) E G_Hearing_init
  have O_l_take := ok_l_take (P := l.prog) (w := w) (base := base) E G_l_take
  have O_Hearing_heard := ok_Hearing_heard (P := l.prog) (w := w) (base := base) E G_Hearing_heard
  have O_l_beat := ok_l_beat (P := l.prog) (w := w) (base := base) E G_l_beat G_l_take O_l_take
  have O_thing_copied := (ok_thing_copied (P := l.prog) (w := w) (base := base) E G_thing_copied (j := 3) (ok_thing_copied (P := l.prog) (w := w) (base := base) E G_thing_copied (j := 2) (ok_thing_copied (P := l.prog) (w := w) (base := base) E G_thing_copied (j := 1) (ok_thing_copied (P := l.prog) (w := w) (base := base) E G_thing_copied (j := 0) (fn_never never_thing_copied : FnOk l.prog w K mg base CX0 0 _ _ ["thing"] (upSp K (sp_thing_copied 0)))))))
  have O_Hearing_hear := ok_Hearing_hear (P := l.prog) (w := w) (base := base) E G_Hearing_hear G_thing_copied O_thing_copied
  have O_l_due := ok_l_due (P := l.prog) (w := w) (base := base) E G_l_due
  have O_law := ok_law (P := l.prog) (w := w) (base := base) E G_law G_l_bag O_l_bag G_Hearing_init O_Hearing_init G_l_take O_l_take G_Hearing_heard O_Hearing_heard G_l_beat O_l_beat G_Hearing_hear O_Hearing_hear G_l_due O_l_due
  exact O_law
end
theorem walk {l : PySem.W.OpenLaw} {q : Program} {loose : List Str} {XP : (Str → Option Value) → Heap → Prop} {YP : World → Heap → Prop} {d : DefRec} {K : Params → PySem.W.Frag} (hn : l.most = some 63) (hdf : d.params.defaults = [])
    (hY : ∀ (w : World) (h : Heap), YP w h → (K w.params).In h)
    (F : ∀ (w : World) (mg : Str → Option Value) (fa : Addr) (h : Heap), (K w.params).In h → h.Ns mainGlobals mg → mg d.name = some (.ref fa) →
      ∃ fd : FuncData, (∀ (s : Shared) (u : Value), BindsTo s fd ⟨[u], []⟩ [("_law_script", u)]) ∧ ∀ base : Heap, (K w.params).In base → base.Ns mainGlobals mg → FnOk l.prog w (K w.params) mg base CX0 6 fa fd ["_law_script"] (upSp (K w.params) sp_law)) :
    PySem.W.WalkO q loose XP YP l.row.toRowW d [] (fun f vs => PySem.call f vs) :=
  L2.walk_of (n := 63) (k := 6) (x := "_law_script") (CX := fun _ => CX0) (sp := fun w => upSp (K w.params) sp_law) hn (by decide) hdf ⟨rfl, rfl, by decide, by decide⟩ hY F (fun _ H a ns hl hO hS => D.law_start hl hO hS law_read) fun _ _ _ _ _ z => z
end K55
open PySem PySem.W PyProof.Rows
set_option maxRecDepth 100000 in
set_option maxHeartbeats 0 in
theorem PySem.Challenge.cw_placedworks_k55_silent_holds : PySem.Challenge.rw_placedworks_k55_silent.Holds := by
  w_on; o_law; k_head; (case hw => w_witness2)
  k_fill
  refine K55.walk (l := PySem.Challenge.rw_placedworks_k55_silent) rfl rfl (fun w h Y => PySem.W.kIn_of Y) ?F
  case F =>
    intro w mg fa h KX G hmg
    refine' K55.all_mk KX G hmg ?a_l_bag ?l_l_bag ?c_l_bag ?k_l_bag ?a_Hearing_init ?i_Hearing_init ?l_Hearing_init ?c_Hearing_init ?k_Hearing_init ?a_l_take ?l_l_take ?c_l_take ?k_l_take ?a_Hearing_heard ?i_Hearing_heard ?l_Hearing_heard ?c_Hearing_heard ?k_Hearing_heard ?a_l_beat ?l_l_beat ?c_l_beat ?k_l_beat ?a_thing_copied ?l_thing_copied ?c_thing_copied ?k_thing_copied ?a_Hearing_hear ?i_Hearing_hear ?l_Hearing_hear ?c_Hearing_hear ?k_Hearing_hear ?a_l_due ?l_l_due ?c_l_due ?k_l_due ?a_law ?l_law ?c_law ?k_law ?aC_Hearing ?pg_Hearing ?hd_Hearing ?po_Hearing ?sa_Hearing ?mk_Hearing ?kc_Hearing ?n_Hearing_newest ?b_abs ?b_dict ?b_int ?b_isinstance ?b_len ?b_list ?b_max ?b_range ?b_sorted ?b_tuple ?g_QUIET
    (case a_l_bag => k_is)
    (case l_l_bag => k_is)
    (case c_l_bag => k_is)
    (case k_l_bag => k_is)
    (case a_Hearing_init => k_is)
    (case i_Hearing_init => k_is)
    (case l_Hearing_init => k_is)
    (case c_Hearing_init => k_is)
    (case k_Hearing_init => k_is)
    (case a_l_take => k_is)
    (case l_l_take => k_is)
    (case c_l_take => k_is)
    (case k_l_take => k_is)
    (case a_Hearing_heard => k_is)
    (case i_Hearing_heard => k_is)
    (case l_Hearing_heard => k_is)
    (case c_Hearing_heard => k_is)
    (case k_Hearing_heard => k_is)
    (case a_l_beat => k_is)
    (case l_l_beat => k_is)
    (case c_l_beat => k_is)
    (case k_l_beat => k_is)
    (case a_thing_copied => k_is)
    (case l_thing_copied => k_is)
    (case c_thing_copied => k_is)
    (case k_thing_copied => k_is)
    (case a_Hearing_hear => k_is)
    (case i_Hearing_hear => k_is)
    (case l_Hearing_hear => k_is)
    (case c_Hearing_hear => k_is)
    (case k_Hearing_hear => k_is)
    (case a_l_due => k_is)
    (case l_l_due => k_is)
    (case c_l_due => k_is)
    (case k_l_due => k_is)
    (case a_law => k_is)
    (case l_law => k_is)
    (case c_law => k_is)
    (case k_law => k_is)
    (case aC_Hearing => k_is)
    (case pg_Hearing => k_is)
    (case hd_Hearing => k_is)
    (case po_Hearing => k_is)
    (case sa_Hearing => k_is)
    (case mk_Hearing => k_is)
    (case kc_Hearing => k_is)
    (case n_Hearing_newest => k_is)
    (case b_abs => k_is)
    (case b_dict => k_is)
    (case b_int => k_is)
    (case b_isinstance => k_is)
    (case b_len => k_is)
    (case b_list => k_is)
    (case b_max => k_is)
    (case b_range => k_is)
    (case b_sorted => k_is)
    (case b_tuple => k_is)
    (case g_QUIET => k_is)
