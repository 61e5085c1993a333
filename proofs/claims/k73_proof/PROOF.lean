import PyProof.Rows.All
import Wide.All
import OpenK.AllK
import Wide.FinOn
import Lean
import PyProof.EqAt
import PyProof.EqKinds
import PyProof.TupleCall
import KE.KSortTup
import KE.KDictSum
import PyProof.StationsW
import PyProof.InstStoreFacts
import PyProof.ExcBaseAll.ValueError
import PyProof.ExcClass2
import PyProof.RulesAs
import KE.KTryMore
import PyProof.ExcArgs
import KE.KIsAll
import OpenK.KOwn
import PySem.Challenge.RW_placedworks_k73_let_go
set_option genSizeOf false
set_option genSizeOfSpec false
set_option Elab.async false
set_option linter.all false
set_option maxRecDepth 100000
namespace L2
open PySem PySem.Spec PyProof.Rows
abbrev Key := Sum Int Str
def keyIs : Key → Value → Bool
  | .inl k, v => Value.isInt k v
  | .inr x, v => Value.isStrOf x v
def keyH (w : World) : Key → Int
  | .inl k => hashInt k
  | .inr x => hashStr w x
theorem keyIs_shape : ∀ {k : Key} {v : Value}, keyIs k v = true → (∃ i t, k = Sum.inl i ∧ v = Value.int i t) ∨ (∃ x t, k = Sum.inr x ∧ v = Value.str x t)
  | .inl i, v, h => by
    obtain ⟨t, e⟩ := Value.isInt_shape (k := i) (v := v) h
    exact .inl ⟨i, t, rfl, e⟩
  | .inr x, v, h => by
    obtain ⟨t, e⟩ := Value.isStrOf_shape (x := x) (v := v) h
    exact .inr ⟨x, t, rfl, e⟩
theorem keyIs_int (i : Int) (t : Tok) : keyIs (.inl i) (.int i t) = true := by simp [keyIs, Value.isInt]
theorem keyIs_str (x : Str) (t : Tok) : keyIs (.inr x) (.str x t) = true := by simp [keyIs, Value.isStrOf]
theorem key_ll (a b : Int) : decide ((Sum.inl a : Key) = Sum.inl b) = (a == b) := by
  by_cases e : a = b
  · subst e; simp
  · have h : ¬ (Sum.inl a : Key) = Sum.inl b := fun q => e (Sum.inl.inj q)
    rw [decide_eq_false h]
    exact (beq_eq_false_iff_ne.mpr e).symm
theorem key_rr (a b : Str) : decide ((Sum.inr a : Key) = Sum.inr b) = decide (a = b) := by
  by_cases e : a = b
  · subst e; simp
  · have h : ¬ (Sum.inr a : Key) = Sum.inr b := fun q => e (Sum.inr.inj q)
    rw [decide_eq_false h, decide_eq_false e]
theorem key_lr (a : Int) (b : Str) : decide ((Sum.inl a : Key) = Sum.inr b) = false := decide_eq_false (fun q => nomatch q)
theorem key_rl (a : Str) (b : Int) : decide ((Sum.inr a : Key) = Sum.inl b) = false := decide_eq_false (fun q => nomatch q)

def mixKind (prog : Program) (w : World) : PySem.KeyKind prog w Key where
  is := keyIs
  hash := keyH w
  inj := fun v a b ha hb => by
    rcases keyIs_shape ha with ⟨i, t, rfl, rfl⟩ | ⟨x, t, rfl, rfl⟩
    · rcases keyIs_shape hb with ⟨j, u, rfl, e⟩ | ⟨y, u, rfl, e⟩
      · injection e with e1 _; rw [e1]
      · exact nomatch e
    · rcases keyIs_shape hb with ⟨j, u, rfl, e⟩ | ⟨y, u, rfl, e⟩
      · exact nomatch e
      · injection e with e1 _; rw [e1]
  byValue := fun k v h => by
    rcases keyIs_shape h with ⟨i, t, rfl, rfl⟩ | ⟨x, t, rfl, rfl⟩ <;> rfl
  pyHash := fun hv h => by
    rcases keyIs_shape hv with ⟨i, t, rfl, rfl⟩ | ⟨x, t, rfl, rfl⟩
    · exact wpAny_pyHash_int h
    · exact wpAny_pyHash_str h
  eqBool := fun hu hv h => by
    rcases keyIs_shape hu with ⟨i, t, rfl, rfl⟩ | ⟨x, t, rfl, rfl⟩
    · rcases keyIs_shape hv with ⟨j, u, rfl, rfl⟩ | ⟨y, u, rfl, rfl⟩
      · rw [key_ll] at h; exact wpAny_eqBool_int h
      · rw [key_lr] at h; exact SeqAt.EqAt.int_str i t y u _ _ _ _ h
    · rcases keyIs_shape hv with ⟨j, u, rfl, rfl⟩ | ⟨y, u, rfl, rfl⟩
      · rw [key_rl] at h; exact SeqAt.EqAt.str_int x t j u _ _ _ _ h
      · rw [key_rr] at h; exact wpAny_eqBool_str h
  «strs» := fun k x t v h => by
    rcases keyIs_shape h with ⟨i, u, rfl, e⟩ | ⟨y, u, rfl, e⟩
    · exact nomatch e
    · injection e with e1 _
      subst e1
      cases v <;> rfl

theorem mixKind_is (prog : Program) (w : World) (k : Key) (v : Value) : (mixKind prog w).is k v = keyIs k v := rfl
theorem mixKind_int (prog : Program) (w : World) (i : Int) (t : Tok) : (mixKind prog w).is (.inl i) (.int i t) = true := keyIs_int i t
theorem mixKind_str (prog : Program) (w : World) (x : Str) (t : Tok) : (mixKind prog w).is (.inr x) (.str x t) = true := keyIs_str x t
end L2
namespace L2
open PySem PySem.Spec PyProof.Rows
inductive V where
  | non | bl (b : Bool) | int (i : Int) | str (x : Str) | byt (b : Array UInt8) | flt (b : UInt64) | ref (a : Addr) | ty (n : String)
  deriving DecidableEq

def RelV : V → Value → Prop
  | .non, u => u = Value.none
  | .bl b, u => u = Value.bool b
  | .int i, u => ∃ t, u = Value.int i t
  | .str x, u => ∃ t, u = Value.str x t
  | .byt b, u => ∃ t, u = Value.bytes b t
  | .flt b, u => ∃ t, u = Value.float b t
  | .ref a, u => u = Value.ref a
  | .ty n, u => u = Value.type n

abbrev Vals : List V → List Value → Prop := Paired RelV
theorem Vals.length {xs : List V} {us : List Value} (r : Vals xs us) : xs.length = us.length := Paired.length r
theorem Vals.get : ∀ {xs : List V} {us : List Value} {i : Nat} {x : V}, Vals xs us → xs[i]? = some x → ∃ u, us[i]? = some u ∧ RelV x u
  | _, _, _, _, .nil, e => by simp at e
  | _, _, 0, _, .cons r _, e => by simp at e; subst e; exact ⟨_, rfl, r⟩
  | _, _, i + 1, x, .cons _ t, e => by
    obtain ⟨u, h1, h2⟩ := Vals.get (i := i) (x := x) t (by simpa using e)
    exact ⟨u, by simpa using h1, h2⟩
theorem Vals.set {x : V} {u : Value} (r : RelV x u) : ∀ {xs : List V} {us : List Value} (i : Nat), Vals xs us → Vals (xs.set i x) (us.set i u)
  | _, _, _, .nil => .nil
  | _, _, 0, .cons _ t => .cons r t
  | _, _, i + 1, .cons q t => .cons q (Vals.set r i t)
theorem Vals.append : ∀ {xs ys : List V} {us ws : List Value}, Vals xs us → Vals ys ws → Vals (xs ++ ys) (us ++ ws)
  | _, _, _, _, .nil, s => s
  | _, _, _, _, .cons r t, s => .cons r (Vals.append t s)
theorem Vals.take : ∀ {xs : List V} {us : List Value} (n : Nat), Vals xs us → Vals (xs.take n) (us.take n)
  | _, _, 0, _ => .nil
  | _, _, _ + 1, .nil => .nil
  | _, _, n + 1, .cons r t => .cons r (Vals.take n t)
theorem Vals.drop : ∀ {xs : List V} {us : List Value} (n : Nat), Vals xs us → Vals (xs.drop n) (us.drop n)
  | _, _, 0, r => r
  | _, _, _ + 1, .nil => .nil
  | _, _, n + 1, .cons _ t => Vals.drop n t
theorem Vals.none_of : ∀ {xs : List V} {us : List Value} {i : Nat}, Vals xs us → xs[i]? = none → us[i]? = none := fun {xs us i} r e => by
  have h1 := r.length
  have h2 : xs.length ≤ i := List.getElem?_eq_none_iff.mp e
  exact List.getElem?_eq_none_iff.mpr (by omega)

def RelO : Option V → Option Value → Prop
  | some v, some u => RelV v u
  | none, none => True
  | _, _ => False
def KV {κ : Type} : List (κ × V) → List (κ × Value) → Prop := Paired fun (p : κ × V) (q : κ × Value) => p.1 = q.1 ∧ RelV p.2 q.2

def kV : Key → V
  | .inl i => .int i
  | .inr x => .str x

inductive HO where
  /-- a list -/
  | lst (xs : List V)
  /-- a tuple (never changes) -/
  | tup (xs : List V)
  /-- a dict whose keys are ints and texts; one whose keys are tuples of ints and texts (the empty one is both) -/
  | dK (kvs : List (Key × V)) | dT (kvs : List (List Key × V))
  /-- a set of ints: its members, its size -/
  | set (S : Int → Bool) (n : Nat)
  /-- an instance of the class at C, its dict at dx, its attributes -/
  | ins (C dx : Addr) (fs : List (Str × V))
  /-- the dict of the instance at x -/
  | own (x : Addr)
  /-- the dict of an exception -/
  | xd (fs : List (Str × V))
  /-- a bound method, f of x -/
  | met (f x : Addr)
  /-- a range object lo, lo + 1, .. below hi -/
  | rng (lo hi : Int)
  /-- a thing that is known to the object (the script; a dict while a loop walks it): read, never written while it is so -/
  | frz (o : Obj) (u : HO)
  /-- a code object's table -/
  | tbl (ps : Array Value)
  /-- any other thing, by what is true of its one object (a def of one's own: SetO a S n := HO.ext fun h => ..) -/
  | ext (φ : Heap → Prop)

abbrev Hp := Addr → Option HO
def upd (H : Hp) (a : Addr) (o : HO) : Hp := fun b => if b = a then some o else H b
theorem upd_same {H : Hp} {a : Addr} {o : HO} : upd H a o a = some o := by unfold upd; rw [if_pos rfl]
theorem upd_ne {H : Hp} {a b : Addr} {o : HO} (h : b ≠ a) : upd H a o b = H b := by unfold upd; rw [if_neg h]
theorem upd_upd {H : Hp} {a : Addr} {o u : HO} : upd (upd H a o) a u = upd H a u := by
  funext b; unfold upd; split <;> rfl
theorem ne_of {H : Hp} {a b : Addr} {o u : HO} (h : H a = some o) (h' : H b = some u) (d : o ≠ u) : a ≠ b := by
  intro e; subst e; rw [h] at h'; exact d (Option.some.inj h')
theorem ne_of_none {H : Hp} {a b : Addr} {o : HO} (h : H a = some o) (h' : H b = none) : a ≠ b := by
  intro e; subst e; rw [h] at h'; cases h'

section
variable (P : Program) (w : World)
def ObjOk (H : Hp) (h : Heap) (a : Addr) : HO → Prop
  | .lst xs => xs.length ≤ sizeLine ∧ ∃ (its : List Value) (n : Nat), Vals xs its ∧ h.get? a = some { cls := .type "list", data := .seq its.toArray n }
  | .tup xs => xs.length ≤ sizeLine ∧ ∃ its : List Value, Vals xs its ∧ IsTup h a its.toArray
  | .dK kvs => kvs.length ≤ sizeLine ∧ (a == sysModules) = false ∧ ∃ vs, KV kvs vs ∧ h.DictOf (mixKind P w) a vs
  | .dT kvs => kvs.length ≤ sizeLine ∧ (a == sysModules) = false ∧ ∃ xs : List (List Key × Addr × Value),
      Paired (fun (p : List Key × V) (q : List Key × Addr × Value) => p.1 = q.1 ∧ H q.2.1 = some (.tup (p.1.map kV)) ∧ RelV p.2 q.2.2) kvs xs ∧
      ∃ o es ep, h.get? a = some o ∧ o.ExactDict ∧ o.data = .dict es ep ∧ es.toList = xs.map (entryOfKey (tupleKind (mixKind P w))) ∧ (xs.map (·.1)).Nodup
  | .set S n => h.SetOf (intKind P w) a S n
  | .ins C dx fs => H dx = some (.own a) ∧ fs.length ≤ 1000 ∧ dx ≠ a ∧ h.get? a = some (PySem.W.instObj C dx) ∧
      ∃ mA, h.Ns1 dx mA ∧ (∀ f, RelO (fs.lookup f) (mA f)) ∧ PySem.Within mA (fs.map (·.1))
  | .own _ => ∃ o, h.get? a = some o
  | .xd fs => ∃ mA, h.Ns1 a mA ∧ ∀ f, RelO (fs.lookup f) (mA f)
  | .rng lo hi => ∃ t u v, h.get? a = some { cls := .type "range", data := .fields #[.int lo t, .int hi u, .int 1 v] }
  | .frz o u => h.get? a = some o ∧ ObjOk H h a u
  | .tbl ps => h.get? a = some { cls := .none, data := .fields ps }
  | .met f x => h.get? a = some (PySem.W.methodObj (.ref f) (.ref x))
  | .ext φ => φ h ∧ (∃ o, h.get? a = some o) ∧ ∀ h1 h2 : Heap, φ h1 → (∀ o, h1.get? a = some o → h2.get? a = some o) → φ h2
def HOk (H : Hp) (h : Heap) : Prop := ∀ a o, H a = some o → ObjOk P w H h a o
end
section
variable {P : Program} {w : World} {H H' : Hp} {h h' : Heap} {a : Addr} {o : HO}
theorem ObjOk.lt (x : ObjOk P w H h a o) : a < h.objs.size := by
  cases o with
  | lst xs => obtain ⟨_, _, _, _, e⟩ := x; exact Heap.lt_size e
  | tup xs => obtain ⟨_, _, _, p⟩ := x; exact p.lt
  | dK kvs => obtain ⟨_, _, _, _, o, _, _, e, _⟩ := x; exact Heap.lt_size e
  | dT kvs => obtain ⟨_, _, _, _, o, _, _, e, _⟩ := x; exact Heap.lt_size e
  | set S n => obtain ⟨o, _, _, _, e, _⟩ := x; exact Heap.lt_size e
  | ins C dx fs => obtain ⟨_, _, _, e, _⟩ := x; exact Heap.lt_size e
  | own y => obtain ⟨_, e⟩ := x; exact Heap.lt_size e
  | xd fs => obtain ⟨_, ⟨_, _, _, e, _⟩, _⟩ := x; exact Heap.lt_size e
  | rng lo hi => obtain ⟨_, _, _, e⟩ := x; exact Heap.lt_size e
  | frz ob u => obtain ⟨e, _⟩ := x; exact Heap.lt_size e
  | tbl ps => exact Heap.lt_size (show h.get? a = some _ from x)
  | met f y => exact Heap.lt_size (show h.get? a = some _ from x)
  | ext φ => obtain ⟨_, ⟨_, e⟩, _⟩ := x; exact Heap.lt_size e
theorem Paired.mapP {α β : Type} {F G : α → β → Prop} : ∀ {l₁ : List α} {l₂ : List β}, Paired F l₁ l₂ → (∀ a b, F a b → G a b) → Paired G l₁ l₂
  | _, _, .nil, _ => .nil
  | _, _, .cons r t, f => .cons (f _ _ r) (Paired.mapP t f)
theorem ObjOk.stay (x : ObjOk P w H h a o) (k : ∀ b u, (b = a ∨ H b = some (.own a)) → h.get? b = some u → h'.get? b = some u)
    (ho : ∀ b, H b = some (.own a) → H' b = some (.own a)) (ht : ∀ b xs, H b = some (.tup xs) → H' b = some (.tup xs)) : ObjOk P w H' h' a o := by
  induction o with
  | lst xs => obtain ⟨z, its, n, r, e⟩ := x; exact ⟨z, its, n, r, k _ _ (.inl rfl) e⟩
  | tup xs => obtain ⟨z, its, r, ob, e, c⟩ := x; exact ⟨z, its, r, ob, k _ _ (.inl rfl) e, c⟩
  | dK kvs => obtain ⟨z, y, vs, r, ob, es, ep, e, c⟩ := x; exact ⟨z, y, vs, r, ob, es, ep, k _ _ (.inl rfl) e, c⟩
  | dT kvs =>
    obtain ⟨z, y, xs, r, ob, es, ep, e, c⟩ := x
    exact ⟨z, y, xs, Paired.mapP r fun p q z => ⟨z.1, ht _ _ z.2.1, z.2.2⟩, ob, es, ep, k _ _ (.inl rfl) e, c⟩
  | set S n => obtain ⟨ob, es, ep, t, e, c⟩ := x; exact ⟨ob, es, ep, t, k _ _ (.inl rfl) e, c⟩
  | ins C dx fs =>
    obtain ⟨d, z, ne, e, mA, ⟨od, es, ep, e2, c⟩, r⟩ := x
    exact ⟨ho _ d, z, ne, k _ _ (.inl rfl) e, mA, ⟨od, es, ep, k _ _ (.inr d) e2, c⟩, r⟩
  | own y => obtain ⟨ob, e⟩ := x; exact ⟨ob, k _ _ (.inl rfl) e⟩
  | xd fs => obtain ⟨mA, ⟨od, es, ep, e, c⟩, r⟩ := x; exact ⟨mA, ⟨od, es, ep, k _ _ (.inl rfl) e, c⟩, r⟩
  | rng lo hi => obtain ⟨t, u, v, e⟩ := x; exact ⟨t, u, v, k _ _ (.inl rfl) e⟩
  | frz ob u ih => obtain ⟨e, q⟩ := x; exact ⟨k _ _ (.inl rfl) e, ih q⟩
  | tbl ps =>
    have e : h.get? a = some { cls := .none, data := .fields ps } := x
    show h'.get? a = some { cls := .none, data := .fields ps }
    exact k a _ (.inl rfl) e
  | met f y =>
    have e : h.get? a = some (PySem.W.methodObj (.ref f) (.ref y)) := x
    show h'.get? a = some (PySem.W.methodObj (.ref f) (.ref y))
    exact k a _ (.inl rfl) e
  | ext φ => obtain ⟨p, ⟨o, e⟩, st⟩ := x; exact ⟨st _ _ p fun o q => k _ _ (.inl rfl) q, ⟨o, k _ _ (.inl rfl) e⟩, st⟩
theorem HOk.lt (x : HOk P w H h) (e : H a = some o) : a < h.objs.size := (x a o e).lt
theorem HOk.fresh (x : HOk P w H h) (e : h.objs.size ≤ a) : H a = none := by
  cases q : H a with
  | none => rfl
  | some u => exact absurd (Nat.lt_of_lt_of_le (x.lt q) e) (Nat.lt_irrefl _)
theorem HOk.kept (x : HOk P w H h) (k : ∀ b u, h.get? b = some u → h'.get? b = some u) : HOk P w H h' := fun a o e =>
  (x a o e).stay (fun b u _ q => k b u q) (fun _ q => q) fun _ _ q => q
theorem HOk.laid (x : HOk P w H h) (k : ∀ b u, h.get? b = some u → h'.get? b = some u) (hp : h.objs.size ≤ a) (new : ObjOk P w (upd H a o) h' a o) : HOk P w (upd H a o) h' := fun b u e => by
  have hn := x.fresh hp
  by_cases hb : b = a
  · subst hb; rw [upd_same] at e; cases e; exact new
  · rw [upd_ne hb] at e
    exact (x b u e).stay (fun c v _ q => k c v q) (fun c q => by rw [upd_ne (ne_of_none q hn)]; exact q) fun c xs q => by rw [upd_ne (ne_of_none q hn)]; exact q
end
def Rd (H : Hp) (a : Addr) (u : HO) : Prop := H a = some u ∨ ∃ o, H a = some (.frz o u)
theorem Rd.of {H : Hp} {a : Addr} {u : HO} (h : H a = some u) : Rd H a u := .inl h
theorem Rd.ok {P : Program} {w : World} {H : Hp} {h : Heap} {a : Addr} {u : HO} (r : Rd H a u) (x : HOk P w H h) : ObjOk P w H h a u := by
  rcases r with r | ⟨o, r⟩
  · exact x a u r
  · obtain ⟨_, q⟩ := x a _ r
    exact q
def Mut : Option HO → Prop
  | some (.lst _) => True
  | some (.dK _) => True
  | some (.dT _) => True
  | some (.set _ _) => True
  | some (.ins _ _ _) => True
  | some (.ext _) => True
  | _ => False
section
variable {P : Program} {w : World} {H : Hp} {h h' : Heap} {x e : Addr} {o' : HO}
theorem HOk.write (ok : HOk P w H h) (mu : Mut (H x)) (he : e = x ∨ H e = some (.own x)) (k : ∀ b u, b ≠ e → h.get? b = some u → h'.get? b = some u) (heo : ∃ u, h'.get? e = some u)
    (new : ObjOk P w (upd H x o') h' x o') : HOk P w (upd H x o') h' := fun b u q => by
  have nown : ∀ c y, H c = some (.own y) → c ≠ x := fun c y r z => by subst z; rw [r] at mu; exact mu
  have ntup : ∀ c xs, H c = some (.tup xs) → c ≠ x := fun c xs r z => by subst z; rw [r] at mu; exact mu
  by_cases hb : b = x
  · subst hb; rw [upd_same] at q; cases q; exact new
  · rw [upd_ne hb] at q
    by_cases hbe : b = e
    · have q' : H b = some (.own x) := by
        rcases he with z | z
        · exact absurd (hbe.trans z) hb
        · rw [hbe]; exact z
      rw [q] at q'; cases q'
      obtain ⟨v, hv⟩ := heo
      exact ⟨v, by rw [hbe]; exact hv⟩
    · refine (ok b u q).stay (fun c v hc r => k c v ?_ r) (fun c r => by rw [upd_ne (nown c b r)]; exact r) fun c xs r => by rw [upd_ne (ntup c xs r)]; exact r
      rcases hc with rfl | hc
      · exact hbe
      · rintro rfl
        rcases he with z | z
        · exact nown c b hc z
        · rw [hc] at z; cases z; exact hb rfl
end
structure Un (fs ex : List Addr) (H H' : Hp) (h h' : Heap) : Prop where
  keep : ∀ b o, h.get? b = some o → H b = none → b ∉ fs → b ∉ ex → h'.get? b = some o
  slot : ∀ b o, h.get? b = some o → H b = none → b ∈ fs → b ∉ ex → ∃ sl, h'.get? b = some { o with slots := sl }
  free : ∀ b o, h.get? b = some o → H b = none → b ∉ ex → H' b = none
  there : ∀ b o, h.get? b = some o → b ∉ ex → ∃ o', h'.get? b = some o'
  tups : ∀ b xs, H b = some (.tup xs) → H' b = some (.tup xs)
  frzs : ∀ b o u, H b = some (.frz o u) → H' b = some (.frz o u)
  tbls : ∀ b ps, H b = some (.tbl ps) → ∃ more, H' b = some (.tbl (ps ++ more))
section
variable {fs fs' ex ex' : List Addr} {H H1 H2 : Hp} {h h1 h2 h' : Heap} {a x e : Addr} {o : HO}
theorem Un.any (u : Un fs ex H H1 h h1) {b : Addr} {ob : Obj} (q : h.get? b = some ob) (n : H b = none) (hx : b ∉ ex) : ∃ sl, h1.get? b = some { ob with slots := sl } := by
  by_cases hb : b ∈ fs
  · exact u.slot b ob q n hb hx
  · exact ⟨ob.slots, u.keep b ob q n hb hx⟩
theorem Un.trans (a : Un fs ex H H1 h h1) (b : Un fs ex H1 H2 h1 h2) : Un fs ex H H2 h h2 where
  keep := fun c ob q n hc hx => b.keep c ob (a.keep c ob q n hc hx) (a.free c ob q n hx) hc hx
  slot := fun c ob q n hc hx => by
    obtain ⟨sl, e1⟩ := a.slot c ob q n hc hx
    obtain ⟨sl', e2⟩ := b.slot c _ e1 (a.free c ob q n hx) hc hx
    exact ⟨sl', e2⟩
  free := fun c ob q n hx => by
    obtain ⟨o', e1⟩ := a.there c ob q hx
    exact b.free c o' e1 (a.free c ob q n hx) hx
  there := fun c ob q hx => by
    obtain ⟨o', e1⟩ := a.there c ob q hx
    exact b.there c o' e1 hx
  tups := fun c xs q => b.tups c xs (a.tups c xs q)
  frzs := fun c ob xs q => b.frzs c ob xs (a.frzs c ob xs q)
  tbls := fun c ps q => by
    obtain ⟨m1, e1⟩ := a.tbls c ps q
    obtain ⟨m2, e2⟩ := b.tbls c _ e1
    exact ⟨m1 ++ m2, by rw [e2, Array.append_assoc]⟩
theorem Un.kept (k : ∀ b u, h.get? b = some u → h'.get? b = some u) : Un fs ex H H h h' :=
  ⟨fun b ob q _ _ _ => k b ob q, fun b ob q _ _ _ => ⟨ob.slots, k b ob q⟩, fun _ _ _ n _ => n, fun b ob q _ => ⟨ob, k b ob q⟩, fun _ _ q => q, fun _ _ _ q => q, fun _ ps q => ⟨#[], by rw [q]; simp⟩⟩
theorem Un.refl : Un fs ex H H h h := Un.kept fun _ _ q => q
theorem Un.laid (k : ∀ b u, h.get? b = some u → h'.get? b = some u) (hp : h.objs.size ≤ a) (hn : H a = none) : Un fs ex H (upd H a o) h h' where
  keep := fun b u q _ _ _ => k b u q
  slot := fun b u q _ _ _ => ⟨u.slots, k b u q⟩
  free := fun b u q n _ => by rw [upd_ne (Nat.ne_of_lt (Nat.lt_of_lt_of_le (Heap.lt_size q) hp))]; exact n
  there := fun b u q _ => ⟨u, k b u q⟩
  tups := fun b xs q => by rw [upd_ne (ne_of_none q hn)]; exact q
  frzs := fun b u xs q => by rw [upd_ne (ne_of_none q hn)]; exact q
  tbls := fun b ps q => ⟨#[], by rw [upd_ne (ne_of_none q hn), q]; simp⟩
theorem Un.write (mu : Mut (H x)) (he : e = x ∨ H e = some (.own x)) (k : ∀ b u, b ≠ e → h.get? b = some u → h'.get? b = some u) (heo : ∃ u, h'.get? e = some u) : Un fs ex H (upd H x o) h h' := by
  have hx : ∀ b, H b = none → b ≠ x := fun b n z => by subst z; rw [n] at mu; exact mu
  have hb : ∀ b, H b = none → b ≠ e := fun b n z => by
    subst z
    rcases he with r | r
    · exact hx b n r
    · rw [n] at r; cases r
  have hm : ∀ b u, H b = some u → ¬ Mut (some u) → b ≠ x := fun b u q nm z => by subst z; rw [q] at mu; exact nm mu
  refine ⟨fun b u q n _ _ => k b u (hb b n) q, fun b u q n _ _ => ⟨u.slots, k b u (hb b n) q⟩, fun b u q n _ => by rw [upd_ne (hx b n)]; exact n, fun b u q _ => ?_,
    fun b xs q => by rw [upd_ne (hm b _ q fun z => z)]; exact q, fun b u xs q => by rw [upd_ne (hm b _ q fun z => z)]; exact q, fun b ps q => ⟨#[], by rw [upd_ne (hm b _ q fun z => z), q]; simp⟩⟩
  by_cases hbe : b = e
  · subst hbe; exact heo
  · exact ⟨u, k b u hbe q⟩
theorem Un.mono (u : Un fs ex H H1 h h1) (hs : ∀ b ∈ fs, b ∈ fs') (hx : ∀ b ∈ ex, b ∈ ex') : Un fs' ex' H H1 h h1 :=
  ⟨fun b ob q n hb he => u.keep b ob q n (fun z => hb (hs b z)) fun z => he (hx b z), fun _ _ q n _ he => u.any q n fun z => he (hx _ z), fun b ob q n he => u.free b ob q n fun z => he (hx b z), fun b ob q he => u.there b ob q fun z => he (hx b z), u.tups, u.frzs, u.tbls⟩
end
def trk (h : Heap) (H : Hp) : List Addr := (List.range h.objs.size).filter fun a => (H a).isSome
def hidT (h : Heap) (H : Hp) : Heap := PySem.W.hideAll h (trk h H)
theorem hidT_size (h : Heap) (H : Hp) : (hidT h H).objs.size = h.objs.size := PySem.W.hideAll_size _ _
theorem hidT_get {h : Heap} {H : Hp} {b : Addr} {o : Obj} (e : h.get? b = some o) (n : H b = none) : (hidT h H).get? b = some o :=
  PySem.W.hideAll_get _ e fun hm => by
    have q : (H b).isSome = true := (List.mem_filter.mp hm).2
    rw [n] at q; simp at q
theorem of_hidT {h : Heap} {H : Hp} {b : Addr} {o : Obj} (e : (hidT h H).get? b = some o) : h.get? b = some o ∧ H b = none := by
  have e' : h.get? b = some o := PySem.W.of_hideAll (trk h H) e
  refine ⟨e', ?_⟩
  cases q : H b with
  | none => rfl
  | some x =>
    have hm : b ∈ trk h H := List.mem_filter.mpr ⟨List.mem_range.mpr (Heap.lt_size e'), by simp [q]⟩
    have z : (hidT h H).get? b = none := PySem.W.hideAll_none (trk h H) hm
    rw [z] at e; cases e

def allNews (g h : Heap) (L : Addr) : List (Addr × Obj) := (List.range h.objs.size).filterMap fun a => if a = L ∨ (g.get? a).isSome = true then none else (h.get? a).map fun o => (a, o)
def rest (g h : Heap) (L d : Addr) : List (Addr × Obj) := (allNews g h L).filter fun p => decide (p.1 ≠ d)
end L2
namespace L2
open PySem PySem.Spec PyProof.Rows
structure Mod (K : PySem.W.Frag) (mg : Str → Option Value) (base : Heap) : Prop where
  kin : K.In base
  glob : base.Ns mainGlobals mg
  blt : ∃ mb, base.Ns builtinsNs mb ∧ ∀ x : Str, x ≠ "__name__" → mb x = bootBuiltins x
  nolimit : base.NoLimit

structure Cx where
  prog : Program
  w : World
  K : PySem.W.Frag
  mg : Str → Option Value
  base : Heap
  A : Around
  N : List Str
  s₀ : Shared
  H₀ : Hp
  env : Env
  outer : List Env
  stack : List Env
  ex : List Addr
  fn : Str → Bool
  calm : Bool
  pn : List (Addr × Obj)
  xe : Value → Shared → Prop
def frs (l : List Env) : List Addr := l.filterMap (·.frame)
abbrev Cx.fs (X : Cx) : List Addr := frs X.outer

def Vis (sc : Scope) (x : Str) : Prop := sc.names.lookup x = some .local ∨ sc.names.lookup x = some .cell ∨ sc.names.lookup x = some .free
def Loc (sc : Scope) (x : Str) : Prop := sc.names.lookup x = some .local ∨ sc.names.lookup x = some .cell
def Look (env : Env) (h : Heap) (m : Str → Option Value) (x : Str) (u : Value) : Prop :=
  (env.kindOf x = some .local ∧ m x = some u) ∨ ((env.kindOf x = some .cell ∨ env.kindOf x = some .free) ∧ ∃ c, env.cells.lookup x = some c ∧ h.IsCell c (some u))

structure Cx.Ok (X : Cx) : Prop where
  mod : Mod X.K X.mg X.base
  kind : X.env.scope.kind = .function
  glob : X.env.globals = mainGlobals
  blt : X.env.builtins = builtinsNs
  above : X.s₀.heap.objs.size ≤ X.env.locals
  inj : ∀ x y c, X.env.cells.lookup x = some c → X.env.cells.lookup y = some c → x = y
  has : ∀ x, (X.env.kindOf x = some .cell ∨ X.env.kindOf x = some .free) → ∃ c, X.env.cells.lookup x = some c
  cab : ∀ x c, X.fn x = true → X.env.cells.lookup x = some c → X.s₀.heap.objs.size ≤ c
  hd : X.calm = true → X.A.handled = none
  frames : X.A.frames = some X.stack
  stk : X.stack = X.outer ∨ (X.stack = X.env :: X.outer ∧ X.env.frame = some X.env.locals)
  exf : ∀ b ∈ X.ex, b ≠ X.env.locals ∧ ∀ x c, X.env.cells.lookup x = some c → c ≠ b
  bs : ∀ b o, X.base.get? b = some o → X.s₀.heap.get? b = some o ∧ X.H₀ b = none
  bsz : X.base.objs.size ≤ X.s₀.heap.objs.size
  noex : ∀ b o, X.base.get? b = some o → b ∉ X.ex
  exfs : ∀ b ∈ X.ex, b ∉ X.fs
  funs : X.s₀.heap.FunFrames X.base X.outer
  frf : ∀ b ∈ X.fs, X.H₀ b = none

structure Inv (X : Cx) (pins : List (Addr × Obj)) (σ : List (Option V)) (H : Hp) (s : Shared) : Prop where
  ok : X.Ok
  os : s.os = X.s₀.os
  bare : AllBare s.gens
  base : Un X.fs X.ex X.H₀ H X.s₀.heap s.heap
  loc : ∃ m, s.heap.Ns X.env.locals m ∧ ∀ (i : Nat) (x : Str) (v : V), X.N[i]? = some x → σ[i]? = some (some v) → Vis X.env.scope x → ∃ u, RelV v u ∧ Look X.env s.heap m x u
  cell : ∀ x c, X.env.cells.lookup x = some c → ∃ v, s.heap.IsCell c v
  free : H X.env.locals = none
  freeC : ∀ x c, X.env.cells.lookup x = some c → H c = none
  pin : ∀ p ∈ X.pn ++ pins, s.heap.get? p.1 = some p.2 ∧ H p.1 = none ∧ p.1 ≠ X.env.locals ∧ p.1 ∉ X.fs ∧ ∀ v, p.2.data ≠ .cell v
  hok : HOk X.prog X.w H s.heap
  len : σ.length = X.N.length

section
variable {X : Cx} {pins : List (Addr × Obj)} {σ : List (Option V)} {H H' : Hp} {s : Shared} {h' : Heap}
theorem Cx.Ok.nofr (ok : X.Ok) {b : Addr} {o : Obj} (e : X.base.get? b = some o) : b ∉ X.fs := fun hb => by
  have := (ok.funs.mem hb).1
  rw [e] at this; cases this
theorem Inv.bs (I : Inv X pins σ H s) : ∀ b o, X.base.get? b = some o → s.heap.get? b = some o ∧ H b = none := fun b o e =>
  ⟨I.base.keep b o (I.ok.bs b o e).1 (I.ok.bs b o e).2 (I.ok.nofr e) (I.ok.noex b o e), I.base.free b o (I.ok.bs b o e).1 (I.ok.bs b o e).2 (I.ok.noex b o e)⟩
theorem Inv.bk (I : Inv X pins σ H s) : ∀ b o, X.base.get? b = some o → s.heap.get? b = some o := fun b o e => (I.bs b o e).1
theorem Inv.mod (I : Inv X pins σ H s) : Mod X.K X.mg X.base := I.ok.mod
theorem Inv.kIn (I : Inv X pins σ H s) : X.K.In s.heap := I.ok.mod.kin.keeps I.bk
theorem Inv.nolimit (I : Inv X pins σ H s) : s.heap.NoLimit := I.ok.mod.nolimit.keeps I.bk
theorem Inv.fr (I : Inv X pins σ H s) : ∃ m, Fr X.base X.env.locals s.heap m :=
  let ⟨m, hn, _⟩ := I.loc
  ⟨m, hn, I.bk, Nat.le_trans I.ok.bsz I.ok.above⟩
theorem Inv.lt (I : Inv X pins σ H s) : X.env.locals < s.heap.objs.size := let ⟨_, hn, _⟩ := I.loc; hn.lt
theorem Inv.sz (I : Inv X pins σ H s) : X.s₀.heap.objs.size ≤ s.heap.objs.size := Nat.le_trans I.ok.above (Nat.le_of_lt I.lt)
theorem Inv.nofs (I : Inv X pins σ H s) {a : Addr} (h : s.heap.objs.size ≤ a) : a ∉ X.fs := fun hb => by
  obtain ⟨_, o, ho, _⟩ := I.ok.funs.mem hb
  exact absurd (Nat.lt_of_lt_of_le (Heap.lt_size ho) (Nat.le_trans I.sz h)) (Nat.lt_irrefl _)
theorem Inv.cne (I : Inv X pins σ H s) : ∀ x c, X.env.cells.lookup x = some c → c ≠ X.env.locals := fun x c e z => by
  obtain ⟨v, o, ho, hd⟩ := I.cell x c e
  obtain ⟨m, ⟨o', es, ep, ho', hd', _⟩, _⟩ := I.loc
  rw [z, ho'] at ho; cases ho; rw [hd'] at hd; cases hd
theorem Inv.funs (I : Inv X pins σ H s) : s.heap.FunFrames X.base X.outer := by
  have all : ∀ (l : List Env), (∀ b ∈ frs l, b ∈ X.fs) → X.s₀.heap.FunFrames X.base l → s.heap.FunFrames X.base l := by
    intro l
    induction l with
    | nil => intro _ _; trivial
    | cons env r ih =>
      intro hs hl
      obtain ⟨hk, ⟨L, o, hf, hn, ho, hd⟩, hr⟩ := hl
      have hL : L ∈ X.fs := hs L (by unfold frs; rw [List.filterMap_cons, hf]; exact List.mem_cons_self)
      obtain ⟨sl, e⟩ := I.base.slot L o ho (I.ok.frf L hL) hL fun z => I.ok.exfs L z hL
      exact ⟨hk, ⟨L, _, hf, hn, e, hd⟩, ih (fun b hb => hs b (by unfold frs; rw [List.filterMap_cons, hf]; exact List.mem_cons_of_mem _ hb)) hr⟩
  exact all X.outer (fun _ hb => hb) I.ok.funs

theorem Inv.stack (I : Inv X pins σ H s) : s.heap.FunFrames X.base X.stack := by
  rcases I.ok.stk with e | ⟨e, hf⟩
  · rw [e]; exact I.funs
  · rw [e]
    obtain ⟨m, hn, _⟩ := I.loc
    refine .cons (by rw [I.ok.kind]; decide) hf hn ?_ I.funs
    exact Heap.get?_none_of_le (Nat.le_trans I.ok.bsz I.ok.above)
theorem Inv.stkSub (I : Inv X pins σ H s) : ∀ b ∈ frs X.stack, b ∈ X.env.locals :: X.fs := fun b hb => by
  rcases I.ok.stk with e | ⟨e, hf⟩
  · rw [e] at hb; exact List.mem_cons_of_mem _ hb
  · rw [e] at hb
    unfold frs at hb
    rw [List.filterMap_cons, hf] at hb
    exact hb
theorem Inv.stkFree (I : Inv X pins σ H s) : ∀ b ∈ frs X.stack, H b = none := fun b hb => by
  rcases List.mem_cons.mp (I.stkSub b hb) with e | hb
  · rw [e]; exact I.free
  · obtain ⟨_, o, ho, _⟩ := I.ok.funs.mem hb
    exact I.base.free b o ho (I.ok.frf b hb) fun z => I.ok.exfs b z hb

theorem Inv.step {g' : Array GenState} {t' : Nat} {d' : Drawn} {ch : List Addr} (I : Inv X pins σ H s)
    (hch : ∀ b ∈ ch, (b ∈ X.ex ∨ X.s₀.heap.objs.size ≤ b) ∧ b ≠ X.env.locals ∧ (∀ x c, X.env.cells.lookup x = some c → c ≠ b) ∧ ∀ p ∈ X.pn ++ pins, p.1 ≠ b)
    (keep : ∀ b o, b ≠ X.env.locals → b ∉ X.fs → b ∉ ch → s.heap.get? b = some o → H b = none → h'.get? b = some o)
    (slot : ∀ b o, b ≠ X.env.locals → b ∈ X.fs → b ∉ ch → s.heap.get? b = some o → H b = none → ∃ sl, h'.get? b = some { o with slots := sl }) (free : ∀ b o, b ∉ ch → s.heap.get? b = some o → H b = none → H' b = none)
    (there : ∀ b o, b ∉ ch → s.heap.get? b = some o → ∃ o', h'.get? b = some o')
    (tups : ∀ b xs, H b = some (.tup xs) → H' b = some (.tup xs)) (frzs : ∀ b o u, H b = some (.frz o u) → H' b = some (.frz o u)) (tbls : ∀ b ps, H b = some (.tbl ps) → ∃ more, H' b = some (.tbl (ps ++ more)))
    (ns : ∀ m, s.heap.Ns X.env.locals m → h'.Ns X.env.locals m) (hok : HOk X.prog X.w H' h') (hg : AllBare g') :
    Inv X pins σ H' { s with heap := h', gens := g', drawn := d', toks := t' } := by
  have neL : ∀ b o, X.s₀.heap.get? b = some o → b ≠ X.env.locals := fun b o e => Nat.ne_of_lt (Nat.lt_of_lt_of_le (Heap.lt_size e) I.ok.above)
  have neC : ∀ b o, X.s₀.heap.get? b = some o → b ∉ X.ex → b ∉ ch := fun b o e hx hb => by
    rcases (hch b hb).1 with z | z
    · exact hx z
    · exact absurd (Nat.lt_of_lt_of_le (Heap.lt_size e) z) (Nat.lt_irrefl _)
  have cellK : ∀ x c, X.env.cells.lookup x = some c → ∀ v, s.heap.IsCell c v → h'.IsCell c v := fun x c e v hq0 => by
    obtain ⟨o, ho, hd⟩ := hq0
    have nch : c ∉ ch := fun z => (hch c z).2.2.1 x c e rfl
    by_cases hc : c ∈ X.fs
    · obtain ⟨sl, q⟩ := slot c o (I.cne x c e) hc nch ho (I.freeC x c e)
      exact ⟨_, q, hd⟩
    · exact ⟨o, keep c o (I.cne x c e) hc nch ho (I.freeC x c e), hd⟩
  refine ⟨I.ok, I.os, hg, ⟨fun b o e n hb hx => ?_, fun b o e n hb hx => ?_, fun b o e n hx => ?_, fun b o e hx => ?_, fun b xs e => tups b xs (I.base.tups b xs e), fun b o xs e => frzs b o xs (I.base.frzs b o xs e), fun b ps e => ?_⟩, ?_, fun x c e => ?_, ?_, fun x c e => ?_, fun p hp => ?_, hok, I.len⟩
  · exact keep b o (neL b o e) hb (neC b o e hx) (I.base.keep b o e n hb hx) (I.base.free b o e n hx)
  · obtain ⟨sl, e1⟩ := I.base.slot b o e n hb hx
    obtain ⟨sl', e2⟩ := slot b _ (neL b o e) hb (neC b o e hx) e1 (I.base.free b o e n hx)
    exact ⟨sl', e2⟩
  · obtain ⟨o', e1⟩ := I.base.there b o e hx
    exact free b o' (neC b o e hx) e1 (I.base.free b o e n hx)
  · obtain ⟨o', e1⟩ := I.base.there b o e hx
    exact there b o' (neC b o e hx) e1
  · obtain ⟨m1, e1⟩ := I.base.tbls b ps e
    obtain ⟨m2, e2⟩ := tbls b _ e1
    exact ⟨m1 ++ m2, by rw [e2, Array.append_assoc]⟩
  · obtain ⟨m, hn, hl⟩ := I.loc
    refine ⟨m, ns m hn, fun i x v e1 e2 e3 => ?_⟩
    obtain ⟨u, r, l⟩ := hl i x v e1 e2 e3
    refine ⟨u, r, ?_⟩
    rcases l with l | ⟨k, c, e, z⟩
    · exact .inl l
    · exact .inr ⟨k, c, e, cellK x c e _ z⟩
  · obtain ⟨v, z⟩ := I.cell x c e
    exact ⟨v, cellK x c e v z⟩
  · obtain ⟨m, ⟨o, _, _, ho, _⟩, _⟩ := I.loc
    exact free _ o (fun z => (hch _ z).2.1 rfl) ho I.free
  · obtain ⟨v, o, ho, hd⟩ := I.cell x c e
    exact free c o (fun z => (hch c z).2.2.1 x c e rfl) ho (I.freeC x c e)
  · obtain ⟨e, n, ne, nf, d⟩ := I.pin p hp
    have nch : p.1 ∉ ch := fun z => (hch p.1 z).2.2.2 p hp rfl
    exact ⟨keep p.1 p.2 ne nf nch e n, free p.1 p.2 nch e n, ne, nf, d⟩
theorem Inv.un {t' : Nat} (I : Inv X pins σ H s) (u : Un X.fs [] H H' s.heap h') (hok : HOk X.prog X.w H' h') : Inv X pins σ H' { s with heap := h', toks := t' } := by
  obtain ⟨m, ⟨o, es, ep, ho, r⟩, _⟩ := id I.loc
  obtain ⟨sl, hL⟩ := u.any ho I.free (by simp)
  exact I.step (g' := s.gens) (d' := s.drawn) (ch := []) (fun _ z => nomatch z) (fun b o _ hb _ e n => u.keep b o e n hb (by simp)) (fun b o _ hb _ e n => u.slot b o e n hb (by simp)) (fun b o _ e n => u.free b o e n (by simp)) (fun b o _ e => u.there b o e (by simp)) u.tups u.frzs u.tbls (fun m' hm => by
    obtain ⟨o', es', ep', ho', r'⟩ := hm
    rw [ho] at ho'; cases ho'
    exact ⟨_, es', ep', hL, r'⟩) hok I.bare
theorem Inv.call {g' : Array GenState} {t' : Nat} {d' : Drawn} {ch : List Addr} (I : Inv X pins σ H s) (u : Un (frs X.stack) ch H H' s.heap h') (hok : HOk X.prog X.w H' h') (hg : AllBare g')
    (hch : ∀ b ∈ ch, (b ∈ X.ex ∨ X.s₀.heap.objs.size ≤ b) ∧ b ≠ X.env.locals ∧ (∀ x c, X.env.cells.lookup x = some c → c ≠ b) ∧ ∀ p ∈ X.pn ++ pins, p.1 ≠ b) :
    Inv X pins σ H' { s with heap := h', gens := g', drawn := d', toks := t' } := by
  obtain ⟨m, ⟨o, es, ep, ho, r⟩, _⟩ := id I.loc
  obtain ⟨sl, hL⟩ := u.any ho I.free fun z => (hch _ z).2.1 rfl
  exact I.step (ch := ch) hch (fun b o hL hb hc e n => u.keep b o e n (fun z => (List.mem_cons.mp (I.stkSub b z)).elim hL hb) hc) (fun b o _ _ hc e n => u.any e n hc) (fun b o hc e n => u.free b o e n hc) (fun b o hc e => u.there b o e hc) u.tups u.frzs u.tbls (fun m' hm => by
    obtain ⟨o', es', ep', ho', r'⟩ := hm
    rw [ho] at ho'; cases ho'
    exact ⟨_, es', ep', hL, r'⟩) hok hg
theorem Inv.turned {t' : Nat} {it : Addr} (I : Inv X pins σ H s) (k : ∀ b o, b ≠ it → s.heap.get? b = some o → h'.get? b = some o) (hn : H it = none) (hL : it ≠ X.env.locals)
    (h1 : it ∈ X.ex ∨ X.s₀.heap.objs.size ≤ it) (h2 : ∀ x c, X.env.cells.lookup x = some c → c ≠ it) (h3 : ∀ p ∈ X.pn ++ pins, p.1 ≠ it) : Inv X pins σ H { s with heap := h', toks := t' } := by
  have nit : ∀ b u, H b = some u → b ≠ it := fun b u e z => by rw [z, hn] at e; cases e
  refine I.step (g' := s.gens) (d' := s.drawn) (ch := [it]) (fun b hb => ?_) (fun b o _ _ hc e _ => k b o (fun z => hc (by simp [z])) e) (fun b o _ _ hc e _ => ⟨o.slots, k b o (fun z => hc (by simp [z])) e⟩) (fun _ _ _ _ n => n)
    (fun b o hc e => ⟨o, k b o (fun z => hc (by simp [z])) e⟩) (fun _ _ e => e) (fun _ _ _ e => e) (fun b ps e => ⟨#[], by rw [e]; simp⟩) (fun m hm => ?_) (fun b u e => ?_) I.bare
  · have e : b = it := by simpa using hb
    subst e
    exact ⟨h1, hL, h2, h3⟩
  · obtain ⟨o, es, ep, ho, r⟩ := hm
    exact ⟨o, es, ep, k _ o (Ne.symm hL) ho, r⟩
  · refine (I.hok b u e).stay (fun c v hc q => k c v ?_ q) (fun _ q => q) fun _ _ q => q
    rcases hc with z | z
    · rw [z]; exact nit b u e
    · exact nit c _ z
theorem Inv.tok (I : Inv X pins σ H s) (t : Nat) : Inv X pins σ H { s with toks := t } := I.un (h' := s.heap) (t' := t) Un.refl I.hok
theorem Inv.kept {t' : Nat} (I : Inv X pins σ H s) (k : ∀ b u, s.heap.get? b = some u → h'.get? b = some u) : Inv X pins σ H { s with heap := h', toks := t' } := I.un (Un.kept k) (I.hok.kept k)
theorem Inv.laid {a : Addr} {o : HO} {t' : Nat} (I : Inv X pins σ H s) (k : ∀ b u, s.heap.get? b = some u → h'.get? b = some u) (hp : s.heap.objs.size ≤ a) (new : ObjOk X.prog X.w (upd H a o) h' a o) :
    Inv X pins σ (upd H a o) { s with heap := h', toks := t' } := I.un (Un.laid k hp (I.hok.fresh hp)) (I.hok.laid k hp new)
theorem Inv.write {x e : Addr} {o : HO} {t' : Nat} (I : Inv X pins σ H s) (mu : Mut (H x)) (he : e = x ∨ H e = some (.own x)) (k : ∀ b u, b ≠ e → s.heap.get? b = some u → h'.get? b = some u) (heo : ∃ u, h'.get? e = some u)
    (new : ObjOk X.prog X.w (upd H x o) h' x o) : Inv X pins σ (upd H x o) { s with heap := h', toks := t' } := I.un (Un.write mu he k heo) (I.hok.write mu he k heo new)
theorem Inv.pins_of {pins' : List (Addr × Obj)} (I : Inv X pins σ H s) (h : ∀ p ∈ pins', s.heap.get? p.1 = some p.2 ∧ H p.1 = none ∧ p.1 ≠ X.env.locals ∧ p.1 ∉ X.fs ∧ ∀ v, p.2.data ≠ .cell v) : Inv X pins' σ H s :=
  ⟨I.ok, I.os, I.bare, I.base, I.loc, I.cell, I.free, I.freeC, fun p hp => (List.mem_append.mp hp).elim (fun z => I.pin p (List.mem_append_left _ z)) (h p), I.hok, I.len⟩

theorem nodup_ix {N : List Str} (hN : N.Nodup) {i j : Nat} {x : Str} (a : N[i]? = some x) (b : N[j]? = some x) : i = j := by
  obtain ⟨h1, e1⟩ := List.getElem?_eq_some_iff.mp a
  obtain ⟨h2, e2⟩ := List.getElem?_eq_some_iff.mp b
  exact (List.getElem_inj hN).mp (e1.trans e2.symm)

theorem store_ok2 {M : Model} {A : Around} {E : Value → Shared → Prop} {i : Nat} {x : Str} {v : V} {u : Value} {Q : Unit → Shared → Prop} (I : Inv X pins σ H s) (hN : X.N.Nodup) (hi : X.N[i]? = some x) (hx : Loc X.env.scope x) (r : RelV v u)
    (h : ∀ s', Inv X pins (σ.set i (some v)) H s' → (∃ a, Heap.SameBut a s.heap s'.heap ∧ (a = X.env.locals ∨ X.env.cells.lookup x = some a)) → Q () s') (hf : X.fn x = true ∨ X.env.scope.names.lookup x = some .local := by first | exact .inl rfl | exact .inr rfl | assumption) : wpAny M A (storeName X.env x u) Q E s := by
  obtain ⟨m, hn, hl⟩ := id I.loc
  have hcls : (X.env.scope.kind == .class || (X.env.scope.kind == .module && X.env.locals != X.env.globals)) = false := by rw [I.ok.kind]; rfl
  have hiσ : i < σ.length := by rw [I.len]; exact (List.getElem?_eq_some_iff.mp hi).1
  have cne := I.cne
  have tracked : ∀ {a : Addr} {h' : Heap}, (∃ o, s.heap.get? a = some o ∧ H a = none) → Heap.SameBut a s.heap h' → HOk X.prog X.w H h' := fun {a h'} ha hs b ob e => by
    obtain ⟨_, _, hfree⟩ := ha
    refine (I.hok b ob e).stay (fun c w' hc q => (hs.2 c ?_).trans q) (fun _ q => q) fun _ _ q => q
    rintro rfl
    rcases hc with rfl | hc
    · rw [hfree] at e; cases e
    · rw [hfree] at hc; cases hc
  rcases hx with hk | hk
  · refine wpAny_storeName_local hk hn (fun h' hn' hs => ?_) hcls
    obtain ⟨oL, _, _, hoL, _⟩ := id hn
    refine h _ ⟨I.ok, I.os, I.bare, ⟨fun b o e n hb hx => ?_, fun b o e n hb hx => ?_, I.base.free, fun b o e hx => ?_, I.base.tups, I.base.frzs, I.base.tbls⟩, ⟨_, hn', fun j y v' e1 e2 e3 => ?_⟩, fun y c e => ?_, I.free, I.freeC, fun p hp => ?_, tracked ⟨oL, hoL, I.free⟩ hs, by simpa using I.len⟩ ⟨_, hs, .inl rfl⟩
    · exact (hs.2 b (Nat.ne_of_lt (Nat.lt_of_lt_of_le (Heap.lt_size e) I.ok.above))).trans (I.base.keep b o e n hb hx)
    · obtain ⟨sl, e1⟩ := I.base.slot b o e n hb hx
      exact ⟨sl, (hs.2 b (Nat.ne_of_lt (Nat.lt_of_lt_of_le (Heap.lt_size e) I.ok.above))).trans e1⟩
    · obtain ⟨o', e1⟩ := I.base.there b o e hx
      exact ⟨o', (hs.2 b (Nat.ne_of_lt (Nat.lt_of_lt_of_le (Heap.lt_size e) I.ok.above))).trans e1⟩
    · by_cases hj : j = i
      · subst hj
        rw [hi] at e1; cases e1
        rw [List.getElem?_set_self hiσ] at e2
        cases e2
        exact ⟨u, r, .inl ⟨hk, by simp⟩⟩
      · rw [List.getElem?_set_ne (Ne.symm hj)] at e2
        obtain ⟨u', r', q⟩ := hl j y v' e1 e2 e3
        refine ⟨u', r', ?_⟩
        rcases q with ⟨k, e⟩ | ⟨k, c, e, z⟩
        · refine .inl ⟨k, ?_⟩
          have : y ≠ x := fun e => hj (nodup_ix hN e1 (e ▸ hi))
          simp [this, e]
        · exact .inr ⟨k, c, e, z.sameBut hs (cne y c e)⟩
    · obtain ⟨w', z⟩ := I.cell y c e
      exact ⟨w', z.sameBut hs (cne y c e)⟩
    · obtain ⟨e, n, ne, nf, d⟩ := I.pin p hp
      exact ⟨(hs.2 p.1 ne).trans e, n, ne, nf, d⟩
  · have hfn : X.fn x = true := by
      rcases hf with z | z
      · exact z
      · rw [z] at hk; cases hk
    obtain ⟨c, hc⟩ := I.ok.has x (.inl hk)
    obtain ⟨w', z⟩ := I.cell x c hc
    refine wpAny_storeName_cell I.ok.kind hk hc z (fun h' hc' hs => ?_)
    obtain ⟨oc, hoc, hocd⟩ := id z
    refine h { s with heap := h' } ⟨I.ok, I.os, I.bare, ⟨fun b o e n hb hx => ?_, fun b o e n hb hx => ?_, I.base.free, fun b o e hx => ?_, I.base.tups, I.base.frzs, I.base.tbls⟩, ⟨m, hn.sameBut hs (Ne.symm (cne x c hc)), fun j y v' e1 e2 e3 => ?_⟩, fun y c' e => ?_, I.free, I.freeC, fun p hp => ?_, tracked ⟨oc, hoc, I.freeC x c hc⟩ hs, by simpa using I.len⟩ ⟨c, hs, .inr hc⟩
    · exact (hs.2 b (Nat.ne_of_lt (Nat.lt_of_lt_of_le (Heap.lt_size e) (I.ok.cab x c hfn hc)))).trans (I.base.keep b o e n hb hx)
    · obtain ⟨sl, e1⟩ := I.base.slot b o e n hb hx
      exact ⟨sl, (hs.2 b (Nat.ne_of_lt (Nat.lt_of_lt_of_le (Heap.lt_size e) (I.ok.cab x c hfn hc)))).trans e1⟩
    · obtain ⟨o', e1⟩ := I.base.there b o e hx
      exact ⟨o', (hs.2 b (Nat.ne_of_lt (Nat.lt_of_lt_of_le (Heap.lt_size e) (I.ok.cab x c hfn hc)))).trans e1⟩
    · by_cases hj : j = i
      · subst hj
        rw [hi] at e1; cases e1
        rw [List.getElem?_set_self hiσ] at e2
        cases e2
        exact ⟨u, r, .inr ⟨.inl hk, c, hc, hc'⟩⟩
      · rw [List.getElem?_set_ne (Ne.symm hj)] at e2
        obtain ⟨u', r', q⟩ := hl j y v' e1 e2 e3
        refine ⟨u', r', ?_⟩
        rcases q with q | ⟨k, c', e, z'⟩
        · exact .inl q
        · refine .inr ⟨k, c', e, z'.sameBut hs ?_⟩
          rintro rfl
          exact hj (nodup_ix hN e1 (I.ok.inj _ _ _ e hc ▸ hi))
    · by_cases hcc : c' = c
      · subst hcc; exact ⟨_, hc'⟩
      · obtain ⟨w2, z2⟩ := I.cell y c' e
        exact ⟨w2, z2.sameBut hs hcc⟩
    · obtain ⟨e, n, ne, nf, d⟩ := I.pin p hp
      refine ⟨(hs.2 p.1 ?_).trans e, n, ne, nf, d⟩
      intro q
      rw [q, hoc] at e
      have q' : oc = p.2 := Option.some.inj e
      exact d w' (by rw [← q']; exact hocd)
theorem store_ok {M : Model} {A : Around} {E : Value → Shared → Prop} {i : Nat} {x : Str} {v : V} {u : Value} {Q : Unit → Shared → Prop} (I : Inv X pins σ H s) (hN : X.N.Nodup) (hi : X.N[i]? = some x) (hx : Loc X.env.scope x) (r : RelV v u)
    (h : ∀ s', Inv X pins (σ.set i (some v)) H s' → Q () s') (hf : X.fn x = true ∨ X.env.scope.names.lookup x = some .local := by first | exact .inl rfl | exact .inr rfl | assumption) : wpAny M A (storeName X.env x u) Q E s :=
  store_ok2 I hN hi hx r (fun s' I' _ => h s' I') hf
theorem Inv.call' {s' : Shared} {ch : List Addr} (I : Inv X pins σ H s) (ho : s'.os = s.os) (u : Un (frs X.stack) ch H H' s.heap s'.heap) (hok : HOk X.prog X.w H' s'.heap) (hg : AllBare s'.gens)
    (hch : ∀ b ∈ ch, (b ∈ X.ex ∨ X.s₀.heap.objs.size ≤ b) ∧ b ≠ X.env.locals ∧ (∀ x c, X.env.cells.lookup x = some c → c ≠ b) ∧ ∀ p ∈ X.pn ++ pins, p.1 ≠ b) : Inv X pins σ H' s' := by
  obtain ⟨h', g', d', t', o'⟩ := s'
  have e : o' = s.os := ho
  subst e
  exact I.call (g' := g') (t' := t') (d' := d') u hok hg hch
end
abbrev XK := Value → Option Addr → Hp → Prop
abbrev St := List (Option V)
abbrev VK := V → Hp → Prop
abbrev TE := St → Hp → VK → Prop
abbrev TT := St → Hp → (Bool → Hp → Prop) → Prop
abbrev TA := St → Hp → (List V → Hp → Prop) → Prop
structure Ends where
  nx : St → Hp → Prop
  rt : VK
  bk : St → Hp → Prop := fun _ _ => False
  ct : St → Hp → Prop := fun _ _ => False
abbrev TS := Ends → St → Hp → Prop

def EP (X : Cx) (pins : List (Addr × Obj)) (σ : St) (Q : VK) (u : Value) (s' : Shared) : Prop := ∃ v H', Inv X pins σ H' s' ∧ RelV v u ∧ Q v H'
def TP (X : Cx) (pins : List (Addr × Obj)) (σ : St) (Q : Bool → Hp → Prop) (b : Bool) (s' : Shared) : Prop := ∃ H', Inv X pins σ H' s' ∧ Q b H'
def AP (X : Cx) (pins : List (Addr × Obj)) (σ : St) (Q : List V → Hp → Prop) (us : List Value) (s' : Shared) : Prop := ∃ vs H', Inv X pins σ H' s' ∧ Vals vs us ∧ Q vs H'
def SP (X : Cx) (pins : List (Addr × Obj)) (D : Ends) (f : Flow) (s' : Shared) : Prop :=
  match f with
  | .next => ∃ σ' H', Inv X pins σ' H' s' ∧ D.nx σ' H'
  | .brk => ∃ σ' H', Inv X pins σ' H' s' ∧ D.bk σ' H'
  | .cont => ∃ σ' H', Inv X pins σ' H' s' ∧ D.ct σ' H'
  | .ret u => ∃ v σ' H', Inv X pins σ' H' s' ∧ RelV v u ∧ D.rt v H'

def PE (X : Cx) (e : Expr) (t : TE) : Prop :=
  ∀ (pins : List (Addr × Obj)) (s : Shared) (σ : St) (H : Hp) (Q : VK), Inv X pins σ H s → t σ H Q → wpAny (model X.prog X.w) X.A (eval e X.env) (EP X pins σ Q) X.xe s
def PT (X : Cx) (e : Expr) (t : TT) : Prop :=
  ∀ (pins : List (Addr × Obj)) (s : Shared) (σ : St) (H : Hp) (Q : Bool → Hp → Prop), Inv X pins σ H s → t σ H Q → wpAny (model X.prog X.w) X.A (isTrue e X.env (eval e X.env)) (TP X pins σ Q) X.xe s
def PW (X : Cx) (e : Expr) (t : TT) : Prop :=
  ∀ (whole : Sem Value) (pins : List (Addr × Obj)) (s : Shared) (σ : St) (H : Hp) (Q : Bool → Hp → Prop), Inv X pins σ H s → t σ H Q → wpAny (model X.prog X.w) X.A (isTrue e X.env whole) (TP X pins σ Q) X.xe s
theorem PW.pt {X : Cx} {e : Expr} {t : TT} (h : PW X e t) : PT X e t := h _
def PA (X : Cx) (es : List Expr) (t : TA) : Prop :=
  ∀ (pos : Pos) (pins : List (Addr × Obj)) (s : Shared) (σ : St) (H : Hp) (Q : List V → Hp → Prop), Inv X pins σ H s → t σ H Q → wpAny (model X.prog X.w) X.A (spliced (backTo pos (starEach es X.env))) (AP X pins σ Q) X.xe s
def PS (X : Cx) (st : Stmt) (t : TS) : Prop :=
  ∀ (pins : List (Addr × Obj)) (s : Shared) (σ : St) (H : Hp) (D : Ends), Inv X pins σ H s → t D σ H → wpAny (model X.prog X.w) X.A (exec st X.env) (SP X pins D) X.xe s
def PSs (X : Cx) (st : List Stmt) (t : TS) : Prop :=
  ∀ (pins : List (Addr × Obj)) (s : Shared) (σ : St) (H : Hp) (D : Ends), Inv X pins σ H s → t D σ H → wpAny (model X.prog X.w) X.A (execs st X.env) (SP X pins D) X.xe s
theorem thn {α : Type} {t : Sem α} {Q Q' : α → Shared → Prop} {M : Model} {A : Around} {E : Value → Shared → Prop} {s : Shared} (h : wpAny M A t Q E s) (hQ : ∀ a s, Q a s → Q' a s) : wpAny M A t Q' E s := wpAny_mono h hQ fun _ _ x => x
end L2
namespace L2
open PySem PySem.Spec PyProof.Rows
section
variable {X : Cx}
def tVar (i : Nat) : TE := fun σ H Q => ∃ v, σ[i]? = some (some v) ∧ Q v H
def tC (v : V) : TE := fun _ H Q => Q v H
theorem pe_var {i : Nat} {x : Str} {pos : Pos} (hN : X.N[i]? = some x) (hv : Vis X.env.scope x) (hd : (x == ("__debug__" : Str)) = false := by decide) (hcd : (x == ("__classdict__" : Str)) = false := by decide) : PE X (.Name x pos) (tVar i) := by
  intro pins s σ H Q I h
  obtain ⟨v, e, h⟩ := h
  obtain ⟨m, hn, hl⟩ := I.loc
  obtain ⟨u, r, l⟩ := hl i x v hN e hv
  have fin : EP X pins σ Q u s := ⟨v, H, I, r, h⟩
  rcases l with ⟨hk, hm⟩ | ⟨hk, c, hc, hcell⟩
  · exact wpAny_Name (wpAny_loadName_local I.ok.kind hk hn hm fin) hd
  · rcases hk with hk | hk
    · exact wpAny_Name (wpAny_loadName_cell I.ok.kind hk hc hcell fin) hd
    · exact wpAny_Name (wpAny_loadName_free I.ok.kind hk hc hcell fin hcd) hd
theorem pe_int {i j pos} : PE X (.Constant (.int i) j pos) (tC (.int i)) := fun _ _ _ H _ I h => wpAny_Constant_int ⟨.int i, H, I.tok _, ⟨_, rfl⟩, h⟩
theorem pe_bl {b j pos} : PE X (.Constant (.bool b) j pos) (tC (.bl b)) := fun _ _ _ H _ I h => Constant_bool ⟨.bl b, H, I, rfl, h⟩
theorem pe_non {j pos} : PE X (.Constant .none j pos) (tC .non) := fun _ _ _ H _ I h => Constant_none ⟨.non, H, I, rfl, h⟩
theorem pe_str {x j pos} : PE X (.Constant (.str x) j pos) (tC (.str x)) := fun _ _ _ H _ I h => Calls.Constant_str ⟨.str x, H, I.tok _, ⟨_, rfl⟩, h⟩

def Gl (X : Cx) (x : Str) : Prop := X.env.kindOf x = some .globalImplicit
theorem ld_glob {E : Value → Shared → Prop} {pins : List (Addr × Obj)} {s : Shared} {σ : St} {H : Hp} {x : Str} {u : Value} {pos : Pos} {Q : Value → Shared → Prop} (I : Inv X pins σ H s) (hg : Gl X x) (hm : X.mg x = some u) (h : Q u s)
    (hd : (x == ("__debug__" : Str)) = false := by decide) : wpAny (model X.prog X.w) X.A (eval (.Name x pos) X.env) Q E s :=
  Calls.Name_function_global I.ok.kind hg (Calls.loadGlobal_global (by rw [I.ok.glob]; exact I.mod.glob.keeps I.bk) hm h) hd
theorem ld_blt {E : Value → Shared → Prop} {pins : List (Addr × Obj)} {s : Shared} {σ : St} {H : Hp} {x : Str} {u : Value} {pos : Pos} {Q : Value → Shared → Prop} (I : Inv X pins σ H s) (hg : Gl X x) (hm : X.mg x = none) (hv : bootBuiltins x = some u) (h : Q u s)
    (hn : x ≠ "__name__" := by decide) (hd : (x == ("__debug__" : Str)) = false := by decide) : wpAny (model X.prog X.w) X.A (eval (.Name x pos) X.env) Q E s := by
  obtain ⟨mb, h1, h2⟩ := I.mod.blt
  exact Calls.Name_function_global I.ok.kind hg (Calls.loadGlobal_builtin (by rw [I.ok.glob]; exact I.mod.glob.keeps I.bk) hm (by rw [I.ok.blt]; exact h1.keeps I.bk) ((h2 x hn).trans hv) h) hd
theorem pe_glob {x : Str} {v : V} {u : Value} {pos : Pos} (hg : Gl X x) (hm : X.mg x = some u) (r : RelV v u) (hd : (x == ("__debug__" : Str)) = false := by decide) : PE X (.Name x pos) (tC v) :=
  fun _ _ _ H _ I h => ld_glob I hg hm ⟨v, H, I, r, h⟩ hd
variable {a b : Expr} {ta tb : TE} {pos : Pos}
def PC (X : Cx) (op : CmpOp) (a b : Expr) (t : TE) : Prop :=
  ∀ (pins : List (Addr × Obj)) (s : Shared) (σ : St) (H : Hp) (Q : VK), Inv X pins σ H s → t σ H Q →
    wpAny (model X.prog X.w) X.A (eval a X.env) (fun v s₁ => wpAny (model X.prog X.w) X.A (eval b X.env) (fun u s₂ => wpAny (model X.prog X.w) X.A (compareOp op v u) (EP X pins σ Q) X.xe s₂) X.xe s₁) X.xe s
theorem nobehind (b : Expr) {op : CmpOp} (h : op ≠ .In) (h2 : op ≠ .NotIn) : behindInMarks op b = false := by
  have e1 : (op == CmpOp.In) = false := by cases op <;> first | rfl | exact absurd rfl h
  have e2 : (op == CmpOp.NotIn) = false := by cases op <;> first | rfl | exact absurd rfl h2
  cases b <;> simp [behindInMarks, e1, e2]
def tB (t : TE) : TT := fun σ H Q => t σ H fun x H1 => ∃ c, x = .bl c ∧ Q c H1
theorem pt_cmp {op : CmpOp} {t : TE} (h : PC X op a b t) (h1 : behindInMarks op b = false := by first | exact nobehind _ (by decide) (by decide) | rfl) : PT X (.Compare a [op] [b] pos) (tB t) := by
  intro pins s σ H Q I hw
  refine wpAny_isTrue_Compare1 (thn (h pins s σ H _ I hw) fun v s1 h1 => thn h1 fun u s2 h2 => thn h2 fun c s3 ⟨x, H1, I1, r1, q1⟩ => ?_) h1
  obtain ⟨d, rfl, q⟩ := q1
  cases r1
  exact wpAny_truthy_bool ⟨H1, I1, q⟩
theorem pt_val {e : Expr} {t : TE} (h : PE X e t) (he : ∀ whole, isTrue e X.env whole = (do let v ← whole; standAt e.pos; holding [v] (truthy v)) := by intro _; rfl) : PT X e (tB t) := by
  intro pins s σ H Q I hw
  refine isTrue_plain (thn (h pins s σ H _ I hw) fun v s1 ⟨x, H1, I1, r1, q1⟩ => ?_) (he _)
  obtain ⟨d, rfl, q⟩ := q1
  cases r1
  exact wpAny_truthy_bool ⟨H1, I1, q⟩

variable {tA tB' : TT} {rest : List Expr}
def tAnd (t u : TT) : TT := fun σ H Q => t σ H fun c H1 => if c = true then u σ H1 Q else Q false H1
def tOr (t u : TT) : TT := fun σ H Q => t σ H fun c H1 => if c = true then Q true H1 else u σ H1 Q
def tNot (t : TT) : TT := fun σ H Q => t σ H fun c H1 => Q (!c) H1
theorem pw_and1 (ha : PT X a tA) : PW X (.BoolOp .And [a] pos) tA := by
  intro wh pins s σ H Q I h
  refine isTrue_and (thn (ha pins s σ H Q I h) fun c s1 e => ?_)
  cases c with
  | true => exact isTrue_and_nil e
  | false => exact e
theorem pw_or1 (ha : PT X a tA) : PW X (.BoolOp .Or [a] pos) tA := by
  intro wh pins s σ H Q I h
  refine isTrue_or (thn (ha pins s σ H Q I h) fun c s1 e => ?_)
  cases c with
  | false => exact isTrue_or_nil e
  | true => exact e
theorem pw_and (ha : PT X a tA) (hb : PW X (.BoolOp .And (b :: rest) pos) tB') : PW X (.BoolOp .And (a :: b :: rest) pos) (tAnd tA tB') := by
  intro wh pins s σ H Q I h
  refine isTrue_and (thn (ha pins s σ H _ I h) fun c s1 hq1 => ?_)
  obtain ⟨H1, I1, q1⟩ := hq1
  cases c with
  | true => exact hb wh pins s1 σ H1 Q I1 q1
  | false => exact ⟨H1, I1, q1⟩
theorem pw_or (ha : PT X a tA) (hb : PW X (.BoolOp .Or (b :: rest) pos) tB') : PW X (.BoolOp .Or (a :: b :: rest) pos) (tOr tA tB') := by
  intro wh pins s σ H Q I h
  refine isTrue_or (thn (ha pins s σ H _ I h) fun c s1 hq2 => ?_)
  obtain ⟨H1, I1, q1⟩ := hq2
  cases c with
  | true => exact ⟨H1, I1, q1⟩
  | false => exact hb wh pins s1 σ H1 Q I1 q1
theorem pt_not (ha : PT X a tA) : PT X (.UnaryOp .Not a pos) (tNot tA) := by
  intro pins s σ H Q I h
  exact isTrue_not (ha pins s σ H (fun c H1 => Q (!c) H1) I h)
end
end L2
namespace L2
open PySem PySem.Spec PyProof.Rows
def SqL (K : PySem.W.Frag) (H : Hp) (a : Addr) (xs : List V) : Prop :=
  Rd H a (.lst xs) ∨
    ∃ (o : Obj) (its : Array Value) (n : Nat), K.lookup a = some o ∧ o.cls = .type "list" ∧ o.dict = none ∧ o.data = .seq its n ∧ its.size ≤ sizeLine ∧ Vals xs its.toList
def SqT (K : PySem.W.Frag) (H : Hp) (a : Addr) (xs : List V) : Prop :=
  Rd H a (.tup xs) ∨
    ∃ (o : Obj) (its : Array Value) (n : Nat), K.lookup a = some o ∧ o.cls = .type "tuple" ∧ o.data = .seq its n ∧ its.size ≤ sizeLine ∧ Vals xs its.toList
def absV : Value → Option V
  | .none => some .non
  | .bool b => some (.bl b)
  | .int i _ => some (.int i)
  | .str x _ => some (.str x)
  | .bytes b _ => some (.byt b)
  | .float b _ => some (.flt b)
  | .ref a => some (.ref a)
  | .type n => some (.ty n)
  | _ => none
theorem RelV.abs {x : V} {u : Value} (r : RelV x u) : absV u = some x := by
  cases x with
  | non => cases r; rfl
  | bl _ => cases r; rfl
  | int _ => obtain ⟨t, rfl⟩ := r; rfl
  | str _ => obtain ⟨t, rfl⟩ := r; rfl
  | byt _ => obtain ⟨t, rfl⟩ := r; rfl
  | flt _ => obtain ⟨t, rfl⟩ := r; rfl
  | ref _ => cases r; rfl
  | ty _ => cases r; rfl
theorem RelV.inj {x y : V} {u : Value} (r : RelV x u) (q : RelV y u) : x = y := Option.some.inj (r.abs.symm.trans q.abs)
theorem Vals.inj : ∀ {xs ys : List V} {us : List Value}, Vals xs us → Vals ys us → xs = ys
  | _, _, _, .nil, .nil => rfl
  | _, _, _, .cons r t, .cons r' t' => by rw [r.inj r', Vals.inj t t']
section
variable {X : Cx} {pins : List (Addr × Obj)} {σ : St} {H : Hp} {s : Shared} {a : Addr} {xs ys : List V}
theorem SqL.of {K : PySem.W.Frag} (h : H a = some (.lst xs)) : SqL K H a xs := .inl (.inl h)
theorem SqT.of {K : PySem.W.Frag} (h : H a = some (.tup xs)) : SqT K H a xs := .inl (.inl h)
theorem Inv.list (I : Inv X pins σ H s) (h : SqL X.K H a xs) : ∃ its : List Value, Vals xs its ∧ PlainL s.heap a its.toArray ∧ xs.length ≤ sizeLine := by
  rcases h with h | ⟨o, its, n, hk, hc, hd, hs, hz, r⟩
  · obtain ⟨z, its, n, r, e⟩ := h.ok I.hok
    exact ⟨its, r, ⟨_, n, e, rfl, rfl, rfl⟩, z⟩
  · refine ⟨its.toList, r, ⟨o, n, I.kIn a o hk, hc, hd, by simpa using hs⟩, ?_⟩
    have e := r.length
    simp only [Array.length_toList] at e
    omega
theorem Inv.tuple (I : Inv X pins σ H s) (h : SqT X.K H a xs) : ∃ its : List Value, Vals xs its ∧ IsTup s.heap a its.toArray ∧ xs.length ≤ sizeLine := by
  rcases h with h | ⟨o, its, n, hk, hc, hs, hz, r⟩
  · obtain ⟨z, its, r, p⟩ := h.ok I.hok
    exact ⟨its, r, p, z⟩
  · refine ⟨its.toList, r, ⟨o, I.kIn a o hk, hc, n, by simpa using hs⟩, ?_⟩
    have e := r.length
    simp only [Array.length_toList] at e
    omega
theorem Inv.list_inj (I : Inv X pins σ H s) (h : SqL X.K H a xs) (h' : SqL X.K H a ys) : xs = ys := by
  obtain ⟨its, r, ⟨o, n, e, _, _, d⟩, _⟩ := I.list h
  obtain ⟨its', r', ⟨o', n', e', _, _, d'⟩, _⟩ := I.list h'
  rw [e] at e'; cases e'
  rw [d] at d'
  injection d' with d1 _
  have : its = its' := by simpa using congrArg Array.toList d1
  subst this
  exact r.inj r'
theorem Inv.tuple_inj (I : Inv X pins σ H s) (h : SqT X.K H a xs) (h' : SqT X.K H a ys) : xs = ys := by
  obtain ⟨its, r, ⟨o, e, _, n, d⟩, _⟩ := I.tuple h
  obtain ⟨its', r', ⟨o', e', _, n', d'⟩, _⟩ := I.tuple h'
  rw [e] at e'; cases e'
  rw [d] at d'
  injection d' with d1 _
  have : its = its' := by simpa using congrArg Array.toList d1
  subst this
  exact r.inj r'
end
abbrev Cx.wish (X : Cx) (E : Value → Shared → Prop) : Cx := { X with xe := E }
abbrev Cx.nox (X : Cx) : Cx := X.wish fun _ _ => False
theorem Cx.Ok.wish {X : Cx} (ok : X.Ok) (E : Value → Shared → Prop) : (X.wish E).Ok :=
  ⟨ok.mod, ok.kind, ok.glob, ok.blt, ok.above, ok.inj, ok.has, ok.cab, ok.hd, ok.frames, ok.stk, ok.exf, ok.bs, ok.bsz, ok.noex, ok.exfs, ok.funs, ok.frf⟩
theorem Cx.Ok.unwish {X : Cx} {E : Value → Shared → Prop} (ok : (X.wish E).Ok) : X.Ok :=
  ⟨ok.mod, ok.kind, ok.glob, ok.blt, ok.above, ok.inj, ok.has, ok.cab, ok.hd, ok.frames, ok.stk, ok.exf, ok.bs, ok.bsz, ok.noex, ok.exfs, ok.funs, ok.frf⟩
section
variable {X : Cx} {pins : List (Addr × Obj)} {σ : St} {H : Hp} {s : Shared} {E : Value → Shared → Prop}
theorem Inv.wish (I : Inv X pins σ H s) (E : Value → Shared → Prop) : Inv (X.wish E) pins σ H s := ⟨I.ok.wish E, I.os, I.bare, I.base, I.loc, I.cell, I.free, I.freeC, I.pin, I.hok, I.len⟩
theorem Inv.unwish (I : Inv (X.wish E) pins σ H s) : Inv X pins σ H s := ⟨I.ok.unwish, I.os, I.bare, I.base, I.loc, I.cell, I.free, I.freeC, I.pin, I.hok, I.len⟩
theorem SP.unwish {D : Ends} {f : Flow} {s' : Shared} (h : SP (X.wish E) pins D f s') : SP X pins D f s' := by
  cases f with
  | next => obtain ⟨σ', H', I, q⟩ := h; exact ⟨σ', H', I.unwish, q⟩
  | brk => obtain ⟨σ', H', I, q⟩ := h; exact ⟨σ', H', I.unwish, q⟩
  | cont => obtain ⟨σ', H', I, q⟩ := h; exact ⟨σ', H', I.unwish, q⟩
  | ret u => obtain ⟨v, σ', H', I, r, q⟩ := h; exact ⟨v, σ', H', I.unwish, r, q⟩
theorem PE.nox {e : Expr} {t : TE} (h : PE X.nox e t) : PE X e t := fun pins s σ H Q I hw =>
  wpAny_mono (h pins s σ H Q (I.wish _) hw) (fun _ _ ⟨v, H', I', r, q⟩ => ⟨v, H', I'.unwish, r, q⟩) fun _ _ z => False.elim z
theorem PT.nox {e : Expr} {t : TT} (h : PT X.nox e t) : PT X e t := fun pins s σ H Q I hw =>
  wpAny_mono (h pins s σ H Q (I.wish _) hw) (fun _ _ ⟨H', I', q⟩ => ⟨H', I'.unwish, q⟩) fun _ _ z => False.elim z
theorem PSs.nox {st : List Stmt} {t : TS} (h : PSs X.nox st t) : PSs X st t := fun pins s σ H D I hw =>
  wpAny_mono (h pins s σ H D (I.wish _) hw) (fun _ _ q => q.unwish) fun _ _ z => False.elim z
end
section
variable {X : Cx} {st : Stmt} {rest : List Stmt} {t u : TS} {e : Expr} {te : TE} {pos : Pos}
def tNext : TS := fun D σ H => D.nx σ H
def tSeq (t u : TS) : TS := fun D σ H => t { D with nx := u D } σ H
theorem pss_nil : PSs X [] tNext := fun _ _ σ H _ I h => wpAny_execs_nil ⟨σ, H, I, h⟩
theorem pss_cons (h1 : PS X st t) (h2 : PSs X rest u) : PSs X (st :: rest) (tSeq t u) := by
  intro pins s σ H D I h
  refine wpAny_execs_cons (thn (h1 pins s σ H { D with nx := u D } I h) fun f s1 q => ?_)
  cases f with
  | next =>
    obtain ⟨σ', H', I', q⟩ := q
    exact h2 pins s1 σ' H' D I' q
  | ret v => exact q
  | brk => exact q
  | cont => exact q
theorem pss_one (h1 : PS X st t) : PSs X [st] t := by
  intro pins s σ H D I h
  refine wpAny_execs_cons (thn (h1 pins s σ H D I h) fun f s1 q => ?_)
  cases f with
  | next => exact wpAny_execs_nil q
  | ret v => exact q
  | brk => exact q
  | cont => exact q
theorem Inv.quiet {pins : List (Addr × Obj)} {σ : St} {H : Hp} {s : Shared} (I : Inv X pins σ H s) : interactive X.env = false := by simp [interactive, I.ok.kind]
def tDrop (te : TE) : TS := fun D σ H => te σ H fun _ H1 => D.nx σ H1
theorem ps_expr (he : PE X e te) (hs : swapsWith e none pos.line X.env = pure false := by rfl) : PS X (.Expr e pos) (tDrop te) := by
  intro pins s σ H D I h
  exact wpAny_Expr_any (thn (he pins s σ H _ I h) fun v s1 ⟨x, H1, I1, r1, q1⟩ => ⟨σ, H1, I1, q1⟩) I.quiet hs
def tRet (te : TE) : TS := fun D σ H => te σ H D.rt
theorem ps_ret (he : PE X e te) : PS X (.Return (some e) pos) (tRet te) := by
  intro pins s σ H D I h
  exact wpAny_Return_some (thn (he pins s σ H _ I h) fun v s1 ⟨x, H1, I1, r1, q1⟩ => ⟨x, σ, H1, I1, r1, q1⟩)
def tIfS (c : TT) (t u : TS) : TS := fun D σ H => c σ H fun b H1 => if b = true then t D σ H1 else u D σ H1
theorem ps_if {c : Expr} {a b : List Stmt} {tc : TT} (hc : PT X c tc) (ha : PSs X a t) (hb : PSs X b u) : PS X (.If c a b pos) (tIfS tc t u) := by
  intro pins s σ H D I h
  refine wpAny_If (thn (hc pins s σ H _ I h) fun d s1 hq3 => ?_)
  obtain ⟨H1, I1, q1⟩ := hq3
  cases d with
  | true => exact ha pins s1 σ H1 D I1 q1
  | false => exact hb pins s1 σ H1 D I1 q1
end
abbrev TG := V → St → Hp → (St → Hp → Prop) → Prop
abbrev TGs := List V → St → Hp → (St → Hp → Prop) → Prop
def PG (X : Cx) (target : Expr) (t : TG) : Prop :=
  ∀ (pins : List (Addr × Obj)) (s : Shared) (σ : St) (H : Hp) (v : V) (u : Value) (Q : St → Hp → Prop), Inv X pins σ H s → RelV v u → t v σ H Q →
    wpAny (model X.prog X.w) X.A (assign target X.env u) (fun _ s' => ∃ σ' H', Inv X pins σ' H' s' ∧ Q σ' H') X.xe s
def PGs (X : Cx) (ts : List Expr) (t : TGs) : Prop :=
  ∀ (pins : List (Addr × Obj)) (s : Shared) (σ : St) (H : Hp) (vs : List V) (us : List Value) (Q : St → Hp → Prop), Inv X pins σ H s → Vals vs us → t vs σ H Q →
    wpAny (model X.prog X.w) X.A (assignInOrder ((assignEach ts X.env).map (·.2)) us) (fun _ s' => ∃ σ' H', Inv X pins σ' H' s' ∧ Q σ' H') X.xe s
abbrev TSet := V → V → V → Hp → (Hp → Prop) → Prop
def PSet (X : Cx) (t : TSet) : Prop :=
  ∀ (pins : List (Addr × Obj)) (s : Shared) (σ : St) (H : Hp) (o i v : V) (ov iv u : Value) (Q : Hp → Prop), Inv X pins σ H s → RelV o ov → RelV i iv → RelV v u → t o i v H Q →
    wpAny (model X.prog X.w) X.A (setItem ov iv u) (fun _ s' => ∃ H', Inv X pins σ H' s' ∧ Q H') X.xe s
abbrev TIp := V → V → Hp → VK → Prop
def PIp (X : Cx) (op : Operator) (t : TIp) : Prop :=
  ∀ (pins : List (Addr × Obj)) (s : Shared) (σ : St) (H : Hp) (x y : V) (v u : Value) (Q : VK), Inv X pins σ H s → RelV x v → RelV y u → t x y H Q →
    wpAny (model X.prog X.w) X.A (inplaceOp op v u) (EP X pins σ Q) X.xe s
section
variable {X : Cx} {pos : Pos}
def gName (i : Nat) : TG := fun v σ H Q => Q (σ.set i (some v)) H
theorem pg_name {i : Nat} {x : Str} (hN : X.N.Nodup) (hi : X.N[i]? = some x) (hx : Loc X.env.scope x) (hf : X.fn x = true ∨ X.env.scope.names.lookup x = some .local := by first | exact .inl rfl | exact .inr rfl | assumption) : PG X (.Name x pos) (gName i) := by
  intro pins s σ H v u Q I r h
  exact wpAny_assign_Name (store_ok I hN hi hx r (fun s' I' => ⟨_, H, I', h⟩) hf)
def gNil : TGs := fun vs σ H Q => vs = [] ∧ Q σ H
def gCons (t : TG) (u : TGs) : TGs := fun vs σ H Q => ∃ v r, vs = v :: r ∧ t v σ H fun σ' H' => u r σ' H' Q
theorem pgs_nil : PGs X [] gNil := by
  intro pins s σ H vs us Q I r h
  obtain ⟨e, h⟩ := h
  subst e
  cases r
  exact assignInOrder_nil ⟨σ, H, I, h⟩
theorem pgs_cons {e : Expr} {es : List Expr} {t : TG} {u : TGs} (h1 : PG X e t) (h2 : PGs X es u)
    (hs : (assignEach (e :: es) X.env).map (·.2) = assign e X.env :: (assignEach es X.env).map (·.2) := by rfl) : PGs X (e :: es) (gCons t u) := by
  intro pins s σ H vs us Q I r h
  obtain ⟨v, vr, e1, h⟩ := h
  subst e1
  cases r with
  | cons r rr =>
    rw [hs]
    refine assignInOrder_cons (thn (h1 pins s σ H _ _ _ I r h) fun _ s1 hq4 => ?_)
    obtain ⟨σ1, H1, I1, q1⟩ := hq4
    exact h2 pins s1 σ1 H1 _ _ Q I1 rr q1
def gTup (K : PySem.W.Frag) (n : Nat) (t : TGs) : TG := fun v σ H Q => ∃ a xs, v = .ref a ∧ SqT K H a xs ∧ xs.length = n ∧ t xs σ H Q
theorem pg_tup {es : List Expr} {k : Nat} {t : TGs} {n : Nat} (hc : X.calm = true) (h : PGs X es t)
    (hn : (assignEach es X.env).length = n := by rfl) (hst : (assignEach es X.env).findIdx? (·.1) = none := by rfl) : PG X (.Tuple es k pos) (gTup X.K n t) := by
  intro pins s σ H v u Q I r hw
  obtain ⟨a, xs, e1, hq, hl, hw⟩ := hw
  subst e1
  cases r
  obtain ⟨its, rv, ht, hz⟩ := I.tuple hq
  refine assign_Tuple_tuple (I.ok.hd hc) ht (by simp [hn, ← hl, rv.length]) hst fun h' hx => ?_
  have I1 : Inv X pins σ H { s with heap := h' } := I.kept (t' := s.toks) fun b o e => hx b o (Nat.ne_of_lt (Heap.lt_size e)) e
  exact h pins _ σ H xs _ Q I1 (by simpa using rv) hw
def gSub (to ti : TE) (t : TSet) : TG := fun v σ H Q => to σ H fun o H1 => ti σ H1 fun i H2 => t o i v H2 fun H3 => Q σ H3
theorem pg_sub {o i : Expr} {to ti : TE} {t : TSet} (ho : PE X o to) (hi : PE X i ti) (hs : PSet X t)
    (ha : ∀ v, assign (.Subscript o i pos) X.env v = (do
      let ov ← holding [v] (eval o X.env)
      let iv ← holding [v, ov] (eval i X.env)
      standAt pos
      holding [v, ov, iv] (setItem ov iv v)
      release [v, ov, iv] []) := by intro _; rfl) : PG X (.Subscript o i pos) (gSub to ti t) := by
  intro pins s σ H v u Q I r h
  rw [ha]
  refine wpAny_bind (wpAny_holding (thn (ho pins s σ H _ I h) fun ov s1 hq5 => ?_))
  obtain ⟨x, H1, I1, r1, q1⟩ := hq5
  refine wpAny_bind (wpAny_holding (thn (hi pins s1 σ H1 _ I1 q1) fun iv s2 hq6 => ?_))
  obtain ⟨y, H2, I2, r2, q2⟩ := hq6
  refine wpAny_bind (wpAny_standAt (wpAny_bind (wpAny_holding (thn (hs pins s2 σ H2 x y v ov iv u _ I2 r1 r2 r q2) fun _ s3 hq7 => ?_))))
  obtain ⟨H3, I3, q3⟩ := hq7
  exact wpAny_release ⟨σ, H3, I3, q3⟩
def tAsg (te : TE) (g : TG) : TS := fun D σ H => te σ H fun x H1 => g x σ H1 D.nx
theorem ps_asg {tg e : Expr} {te : TE} {g : TG} (he : PE X e te) (hg : PG X tg g) (hs : swapsWithSole [tg] e pos.line X.env = pure false := by rfl) (hw : swappedStores [tg] e X.env = pure none := by rfl)
    (h1 : (assignEach [tg] X.env).map (·.2) = [assign tg X.env] := by rfl) : PS X (.Assign [tg] e pos) (tAsg te g) := by
  intro pins s σ H D I h
  refine wpAny_Assign_stores (thn (he pins s σ H _ I h) fun v s1 ⟨x, H1, I1, r1, q1⟩ => ?_) hs hw
  rw [h1]
  exact thn (hg pins s1 σ H1 x v _ I1 r1 q1) fun _ s2 q => q
theorem ps_set {i : Nat} {x : Str} {e : Expr} {te : TE} {pos' : Pos} (hN : X.N.Nodup) (hi : X.N[i]? = some x) (hx : Loc X.env.scope x) (he : PE X e te) (hs : swapsWith e (some (.Name x pos')) pos.line X.env = pure false := by rfl) (hf : X.fn x = true ∨ X.env.scope.names.lookup x = some .local := by first | exact .inl rfl | exact .inr rfl | assumption) :
    PS X (.Assign [.Name x pos'] e pos) (tAsg te (gName i)) := by
  intro pins s σ H D I h
  refine wpAny_Assign_Name (thn (he pins s σ H _ I h) fun v s1 ⟨y, H1, I1, r1, q1⟩ => ?_) hs
  exact store_ok I1 hN hi hx r1 (fun s2 I2 => ⟨_, H1, I2, q1⟩) hf
def tAugS (to ti te : TE) (tget : V → V → Hp → VK → Prop) (tip : TIp) (tset : TSet) : TS := fun D σ H => to σ H fun o H1 => ti σ H1 fun i H2 => tget o i H2 fun x H3 => te σ H3 fun y H4 => tip x y H4 fun z H5 => tset o i z H5 fun H6 => D.nx σ H6
def PGet (X : Cx) (t : V → V → Hp → VK → Prop) : Prop :=
  ∀ (pins : List (Addr × Obj)) (s : Shared) (σ : St) (H : Hp) (o i : V) (ov iv : Value) (Q : VK), Inv X pins σ H s → RelV o ov → RelV i iv → t o i H Q →
    wpAny (model X.prog X.w) X.A (getItem ov iv) (EP X pins σ Q) X.xe s
theorem ps_augS {o i e : Expr} {to ti te : TE} {tget : V → V → Hp → VK → Prop} {tip : TIp} {tset : TSet} {op : Operator} {tpos : Pos} (ho : PE X o to) (hi : PE X i ti) (hg : PGet X tget) (he : PE X e te) (hp : PIp X op tip) (hs : PSet X tset)
    (ha : ∀ ov iv new, augStore i ov iv new = (do holding [new, ov, iv] (setItem ov iv new); release [new, ov, iv] []; pure .next) := by intros; rfl) : PS X (.AugAssign (.Subscript o i tpos) op e pos) (tAugS to ti te tget tip tset) := by
  intro pins s σ H D I h
  refine wpAny_AugAssign_SubscriptAny (thn (ho pins s σ H _ I h) fun ov s1 ⟨x1, H1, I1, r1, q1⟩ => ?_) ha
  refine thn (hi pins s1 σ H1 _ I1 q1) fun iv s2 hq8 => ?_
  obtain ⟨x2, H2, I2, r2, q2⟩ := hq8
  refine thn (hg pins s2 σ H2 x1 x2 ov iv _ I2 r1 r2 q2) fun old s3 hq9 => ?_
  obtain ⟨x3, H3, I3, r3, q3⟩ := hq9
  refine thn (he pins s3 σ H3 _ I3 q3) fun v s4 hq10 => ?_
  obtain ⟨x4, H4, I4, r4, q4⟩ := hq10
  refine thn (hp pins s4 σ H4 x3 x4 old v _ I4 r3 r4 q4) fun new s5 hq11 => ?_
  obtain ⟨x5, H5, I5, r5, q5⟩ := hq11
  exact thn (hs pins s5 σ H5 x1 x2 x5 ov iv new _ I5 r1 r2 r5 q5) fun _ s6 ⟨H6, I6, q6⟩ => ⟨σ, H6, I6, q6⟩
def ipI (f : Int → Int → Int) : TIp := fun x y H Q => ∃ i j, x = .int i ∧ y = .int j ∧ Q (.int (f i j)) H
theorem ip_add : PIp X .Add (ipI fun i j => i + j) := by
  intro pins s σ H x y v u Q I r1 r2 h
  obtain ⟨i, j, e1, e2, q⟩ := h
  subst e1; subst e2
  obtain ⟨t, rfl⟩ := r1
  obtain ⟨t', rfl⟩ := r2
  exact iadd_int ⟨.int _, H, I.tok _, ⟨_, rfl⟩, q⟩
end
section
variable {X : Cx} {pos : Pos}
end
structure It where
  go : Nat → Hp → Prop
  yld : Nat → Hp → V → Hp → Prop
  stop : Nat → Hp → Prop
def FpOk (X : Cx) (pins : List (Addr × Obj)) (H : Hp) (b : Addr) : Prop :=
  H b = none ∧ b ≠ X.env.locals ∧ b ∉ X.fs ∧ (b ∈ X.ex ∨ X.s₀.heap.objs.size ≤ b) ∧ (∀ x c, X.env.cells.lookup x = some c → c ≠ b) ∧ ∀ p ∈ X.pn ++ pins, p.1 ≠ b
theorem Inv.fpOk {X : Cx} {pins : List (Addr × Obj)} {σ : St} {H H' : Hp} {s : Shared} {b : Addr} (I : Inv X pins σ H s) (hb : s.heap.objs.size ≤ b) (hn : H' b = none) : FpOk X pins H' b := by
  refine ⟨hn, Nat.ne_of_gt (Nat.lt_of_lt_of_le I.lt hb), I.nofs hb, .inr (Nat.le_trans I.sz hb), fun x c e z => ?_, fun p hp z => ?_⟩
  · obtain ⟨v, q⟩ := I.cell x c e
    exact absurd (Nat.lt_of_lt_of_le q.lt (by rw [z]; exact hb)) (Nat.lt_irrefl _)
  · exact absurd (Nat.lt_of_lt_of_le (Heap.lt_size (I.pin p hp).1) (by rw [z]; exact hb)) (Nat.lt_irrefl _)
structure Turn (P : Program) (w : World) (K : PySem.W.Frag) (tg : Expr) (J : It) (fp : List Addr) (it : Addr) (tn : Nat → Heap → Prop) : Prop where
  mem : it ∈ fp
  obj : ∀ i h, tn i h → ∀ b ∈ fp, ∃ o, h.get? b = some o ∧ ∀ v, o.data ≠ .cell v
  keep : ∀ i h h', tn i h → (∀ b ∈ fp, ∀ o, h.get? b = some o → h'.get? b = some o) → tn i h'
  item : ∀ (X : Cx), X.prog = P → X.w = w → X.K = K → X.calm = true → ∀ (i : Nat) (pins : List (Addr × Obj)) (s : Shared) (σ : St) (H : Hp) (E : Value → Shared → Prop), Inv X pins σ H s → (∀ b ∈ fp, FpOk X pins H b) → tn i s.heap → J.go i H →
    wpAny (model P w) X.A (pyNext (.ref it)) (fun r s1 => ∃ u, r = some u ∧
      wpAny (model P w) X.A (letOwnedTupleGo tg (.ref it) u) (fun _ s2 => ∃ x H', Inv X pins σ H' s2 ∧ RelV x u ∧ J.yld i H x H' ∧ tn (i + 1) s2.heap ∧ ∀ b ∈ fp, H' b = none) E s1) E s
  done : ∀ (X : Cx), X.prog = P → X.w = w → X.K = K → X.calm = true → ∀ (i : Nat) (pins : List (Addr × Obj)) (s : Shared) (σ : St) (H : Hp) (E : Value → Shared → Prop), Inv X pins σ H s → (∀ b ∈ fp, FpOk X pins H b) → tn i s.heap → J.stop i H →
    wpAny (model P w) X.A (pyNext (.ref it)) (fun r s1 => r = none ∧ Inv X pins σ H s1) E s
  self : ∀ (A : Around) (i : Nat) (s : Shared) (Q : Value → Shared → Prop) (E : Value → Shared → Prop), tn i s.heap → Q (.ref it) s → wpAny (model P w) A (pyIter (.ref it)) Q E s
abbrev TI := St → Hp → (It → Hp → Prop) → Prop
def PIE (X : Cx) (pins : List (Addr × Obj)) (σ : St) (tg : Expr) (R : It → Hp → Prop) (itv : Value) (s2 : Shared) : Prop :=
  ∃ (it : Addr) (fp : List Addr) (tn : Nat → Heap → Prop) (J : It) (H' : Hp), itv = .ref it ∧ Inv X pins σ H' s2 ∧ Turn X.prog X.w X.K tg J fp it tn ∧ tn 0 s2.heap ∧ (∀ b ∈ fp, FpOk X pins H' b) ∧ R J H'
def PI (X : Cx) (tg iter : Expr) (wi : TI) : Prop :=
  ∀ (pins : List (Addr × Obj)) (s : Shared) (σ : St) (H : Hp) (R : It → Hp → Prop), Inv X pins σ H s → wi σ H R →
    wpAny (model X.prog X.w) X.A (eval iter X.env) (fun v s1 => wpAny (model X.prog X.w) X.A (pyIter v) (PIE X pins σ tg R) X.xe s1) X.xe s

theorem go_of {M : Model} {A : Around} {E : Value → Shared → Prop} {s : Shared} {tg : Expr} {it : Addr} {u : Value} {o : Obj} {n : String} {vs : Array Value} {Q : Unit → Shared → Prop} (ho : s.heap.get? it = some o) (hc : o.cls = .type n) (hd : o.data = .fields vs)
    (hn : ["enumerate", "zip", "dict_itemiterator", "dict_reverseitemiterator", "odict_iterator", "itertools.zip_longest", "itertools.pairwise"].contains n = false) (hQ : Q () s) : wpAny M A (letOwnedTupleGo tg (.ref it) u) Q E s := by
  unfold letOwnedTupleGo
  cases tg <;> first
    | exact wpAny_pure hQ
    | (cases u <;> first
        | exact wpAny_pure hQ
        | (refine wpAny_bind (wpAny_load ho ?_)
           rw [hc, hd]
           show wpAny M A (if (["enumerate", "zip", "dict_itemiterator", "dict_reverseitemiterator", "odict_iterator", "itertools.zip_longest", "itertools.pairwise"].contains n && vs[0]? == some (rawInt _)) = true then _ else _) Q E s
           rw [if_neg (by intro h; rw [hn, Bool.false_and] at h; cases h)]
           exact wpAny_pure hQ))

def Itl (K : PySem.W.Frag) (a : Addr) : It :=
  ⟨fun i H => ∃ xs x, SqL K H a xs ∧ xs[i]? = some x, fun i H x H' => H' = H ∧ ∀ xs, SqL K H a xs → xs[i]? = some x, fun i H => ∃ xs, SqL K H a xs ∧ xs.length ≤ i⟩
def Itt (K : PySem.W.Frag) (a : Addr) : It :=
  ⟨fun i H => ∃ xs x, SqT K H a xs ∧ xs[i]? = some x, fun i H x H' => H' = H ∧ ∀ xs, SqT K H a xs → xs[i]? = some x, fun i H => ∃ xs, SqT K H a xs ∧ xs.length ≤ i⟩
def Itr (lo : Int) (n : Nat) : It := ⟨fun i _ => i < n, fun i H x H' => H' = H ∧ x = .int (lo + i), fun i _ => n ≤ i⟩
theorem turn_list {P : Program} {w : World} {K : PySem.W.Frag} {tg : Expr} (a it : Addr) : Turn P w K tg (Itl K a) [it] it (fun i h => h.IsListIter it a i) where
  mem := by simp
  obj := fun i h st b hb => by
    have e : b = it := by simpa using hb
    subst e
    obtain ⟨o, e, c, d⟩ := st
    exact ⟨o, e, fun v z => by rw [d] at z; cases z⟩
  keep := fun i h h' st k => st.at fun o e => k it (by simp) o e
  item := by
    intro X hP hw hK hc i pins s σ H E I hf st hg
    subst hP hw hK
    obtain ⟨xs, x, hq, hx⟩ := hg
    obtain ⟨its, rv, p, hz⟩ := I.list hq
    obtain ⟨u, hu, ru⟩ := rv.get hx
    obtain ⟨f0, f1, f2, f3, f4, f5⟩ := hf it (by simp)
    refine wpAny_pyNext_list_item st p.isList (x := u) (by simpa using hu) fun h' st' sb => ?_
    have I1 : Inv X pins σ H { s with heap := h' } := I.turned (t' := s.toks) (fun b o hb e => (sb.2 b hb).trans e) f0 f1 f3 f4 f5
    obtain ⟨o, e, c, d⟩ := id st'
    exact ⟨u, rfl, go_of (s := { s with heap := h' }) e c d (by decide) ⟨x, H, I1, ru, ⟨rfl, fun ys hy => by rw [I.list_inj hy hq]; exact hx⟩, st', fun b hb => (hf b hb).1⟩⟩
  done := by
    intro X hP hw hK hc i pins s σ H E I hf st hg
    subst hP hw hK
    obtain ⟨xs, hq, hx⟩ := hg
    obtain ⟨its, rv, p, hz⟩ := I.list hq
    obtain ⟨f0, f1, f2, f3, f4, f5⟩ := hf it (by simp)
    have hl := rv.length
    exact wpAny_pyNext_list_end (I.ok.hd hc) st p.isList (by simp; omega) fun h' eb => ⟨rfl, I.turned (t' := s.toks) (fun b o hb e => eb b o hb e) f0 f1 f3 f4 f5⟩
  self := fun _ _ _ _ _ st h => wpAny_pyIter_listiter st h
theorem turn_tuple {P : Program} {w : World} {K : PySem.W.Frag} {tg : Expr} (a it : Addr) : Turn P w K tg (Itt K a) [it] it (fun i h => h.IsTupleIter it a i) where
  mem := by simp
  obj := fun i h st b hb => by
    have e : b = it := by simpa using hb
    subst e
    obtain ⟨o, e, c, d⟩ := st
    exact ⟨o, e, fun v z => by rw [d] at z; cases z⟩
  keep := fun i h h' st k => st.at fun o e => k it (by simp) o e
  item := by
    intro X hP hw hK hc i pins s σ H E I hf st hg
    subst hP hw hK
    obtain ⟨xs, x, hq, hx⟩ := hg
    obtain ⟨its, rv, p, hz⟩ := I.tuple hq
    obtain ⟨u, hu, ru⟩ := rv.get hx
    obtain ⟨f0, f1, f2, f3, f4, f5⟩ := hf it (by simp)
    refine wpAny_pyNext_tuple_item st (show s.heap.IsTuple a its.toArray from p) (x := u) (by simpa using hu) fun h' st' sb => ?_
    have I1 : Inv X pins σ H { s with heap := h' } := I.turned (t' := s.toks) (fun b o hb e => (sb.2 b hb).trans e) f0 f1 f3 f4 f5
    obtain ⟨o, e, c, d⟩ := id st'
    exact ⟨u, rfl, go_of (s := { s with heap := h' }) e c d (by decide) ⟨x, H, I1, ru, ⟨rfl, fun ys hy => by rw [I.tuple_inj hy hq]; exact hx⟩, st', fun b hb => (hf b hb).1⟩⟩
  done := by
    intro X hP hw hK hc i pins s σ H E I hf st hg
    subst hP hw hK
    obtain ⟨xs, hq, hx⟩ := hg
    obtain ⟨its, rv, p, hz⟩ := I.tuple hq
    obtain ⟨f0, f1, f2, f3, f4, f5⟩ := hf it (by simp)
    have hl := rv.length
    exact wpAny_pyNext_tuple_end (I.ok.hd hc) st (show s.heap.IsTuple a its.toArray from p) (by simp; omega) fun h' eb => ⟨rfl, I.turned (t' := s.toks) (fun b o hb e => eb b o hb e) f0 f1 f3 f4 f5⟩
  self := fun _ _ _ _ _ st h => wpAny_pyIter_tupleiter st h
theorem turn_range {P : Program} {w : World} {K : PySem.W.Frag} {tg : Expr} (it : Addr) (lo : Int) (n : Nat) : Turn P w K tg (Itr lo n) [it] it (fun i h => IsRangeIter h it (lo + (i : Nat) * 1) ((n : Int) - (i : Nat)) 1) where
  mem := by simp
  obj := fun i h st b hb => by
    have e : b = it := by simpa using hb
    subst e
    exact ⟨_, st, fun v z => by
      have z' : Data.fields _ = Data.cell v := z
      cases z'⟩
  keep := fun i h h' st k => k it (by simp) _ st
  item := by
    intro X hP hw hK hc i pins s σ H E I hf st hg
    subst hP hw hK
    obtain ⟨f0, f1, f2, f3, f4, f5⟩ := hf it (by simp)
    have W := Walks.range (prog := X.prog) (w := X.w) (I.ok.hd hc) it lo 1 n
    refine W.item i s _ _ hg st fun v h' tk hv st' kk => ?_
    obtain ⟨t, rfl⟩ := hv
    have I1 : Inv X pins σ H { s with heap := h', toks := tk } := I.turned (fun b o hb e => kk b o (by simpa using hb) e) f0 f1 f3 f4 f5
    refine ⟨_, rfl, go_of (s := { s with heap := h', toks := tk }) (n := "range_iterator") st' rfl rfl (by decide) ⟨.int (lo + i), H, I1, ⟨t, ?_⟩, ⟨rfl, rfl⟩, st', fun b hb => (hf b hb).1⟩⟩
    rw [Int.mul_one]
  done := by
    intro X hP hw hK hc i pins s σ H E I hf st hg
    subst hP hw hK
    obtain ⟨f0, f1, f2, f3, f4, f5⟩ := hf it (by simp)
    exact wpAny_pyNext_range_end (I.ok.hd hc) st (by have : n ≤ i := hg; omega) fun h' eb => ⟨rfl, I.turned (t' := s.toks) (fun b o hb e => eb b o hb e) f0 f1 f3 f4 f5⟩
  self := fun _ _ _ _ _ st h => wpAny_pyIter_rangeiter st h
end L2
namespace L2
open PySem PySem.Spec PyProof.Rows
section
variable {X : Cx} {tg : Expr}
theorem range_it {pins : List (Addr × Obj)} {σ : St} {H : Hp} {s : Shared} {R : It → Hp → Prop} {E : Value → Shared → Prop} {lo hi : Int} {t u v : Tok} {tk : Nat} (I : Inv X pins σ H s) (h1 : -(2 ^ 62) ≤ lo) (h2 : lo < 2 ^ 62) (h3 : -(2 ^ 62) ≤ hi) (h4 : hi < 2 ^ 62)
    (q : R (Itr lo (hi - lo).toNat) H) : wpAny (model X.prog X.w) X.A (pyIter (.ref s.heap.objs.size)) (PIE X pins σ tg R) E { s with heap := s.heap.push { cls := .type "range", data := .fields #[.int lo t, .int hi u, .int 1 v] }, toks := tk } := by
  refine wpAny_pyIter_range (IsRange.new ..) (small_one h1 h2 h3 h4) ?_
  have I1 : Inv X pins σ H { s with heap := s.heap.push { cls := .type "range", data := .fields #[.int lo t, .int hi u, .int 1 v] }, toks := tk } := I.kept fun b o e => Heap.get?_push_of_some _ e
  refine ⟨(s.heap.push { cls := .type "range", data := .fields #[.int lo t, .int hi u, .int 1 v] }).objs.size, [(s.heap.push { cls := .type "range", data := .fields #[.int lo t, .int hi u, .int 1 v] }).objs.size], _, _, H, rfl,
    I1.kept (t' := tk) fun b o e => Heap.get?_push_of_some _ e, turn_range _ lo (hi - lo).toNat, ?_, fun b hb => ?_, q⟩
  · have e1 : lo + ((0 : Nat) : Int) * 1 = lo := by simp
    have e2 : (((hi - lo).toNat : Nat) : Int) - ((0 : Nat) : Int) = Builtin.Range.rangeSize lo hi 1 := by rw [rangeSize_one]; split <;> omega
    show IsRangeIter _ _ (lo + ((0 : Nat) : Int) * 1) ((((hi - lo).toNat : Nat) : Int) - ((0 : Nat) : Int)) 1
    rw [e1, e2]
    exact Heap.get?_push_size _ rfl
  · have e : b = (s.heap.push { cls := .type "range", data := .fields #[.int lo t, .int hi u, .int 1 v] }).objs.size := by simpa using hb
    subst e
    exact I1.fpOk (Nat.le_refl _) (I1.hok.fresh (Nat.le_refl _))
def iRng1 (ta : TA) : TI := fun σ H R => ta σ H fun vs H1 => ∃ j : Int, vs = [.int j] ∧ -(2 ^ 62) ≤ j ∧ j < 2 ^ 62 ∧ R (Itr 0 j.toNat) H1
theorem pi_range1 {a : Expr} {ta : TA} {p pos : Pos} (hg : Gl X "range") (hm : X.mg "range" = none) (ha : PA X [a] ta) (hs : starEach [a] X.env = [(false, eval a X.env)] := by rfl) : PI X tg (.Call (.Name "range" p) [a] [] pos) (iRng1 ta) := by
  intro pins s σ H R I h
  refine Call_ (ld_blt I hg hm boot_range (PyProof.Rows.callWith_type1 (thn (ha pos pins s σ H _ I h) fun us s1 ⟨vs, H1, I1, r1, q1⟩ => ?_) hs rfl))
  obtain ⟨j, e, q1, q2, q⟩ := q1
  subst e
  cases r1 with
  | cons r rr =>
    cases rr
    obtain ⟨t, rfl⟩ := r
    exact call_range_1 (range_it I1 (by omega) (by omega) q1 q2 (by simpa using q))
def tFor (wi : TI) (g : TG) (tb : TS) : TS := fun D σ H => wi σ H fun J H1 => ∃ W : Nat → Nat → St → Hp → Prop, (∃ m, W 0 m σ H1) ∧ ∀ i m σ H, W i m σ H →
  (J.stop i H ∧ D.nx σ H) ∨ (J.go i H ∧ ∃ N : St → Hp → Prop, (∀ σ' H', N σ' H' → ∃ m', m' < m ∧ W (i + 1) m' σ' H') ∧ ∀ x H', J.yld i H x H' → g x σ H' fun σ2 H2 => tb { D with nx := N, ct := N, bk := D.nx } σ2 H2)
def pinsAt (fp : List Addr) (h : Heap) : List (Addr × Obj) := fp.filterMap fun b => (h.get? b).map fun o => (b, o)
theorem mem_pinsAt {fp : List Addr} {h : Heap} {b : Addr} {o : Obj} (hb : b ∈ fp) (e : h.get? b = some o) : (b, o) ∈ pinsAt fp h := List.mem_filterMap.mpr ⟨b, hb, by rw [e]; rfl⟩
theorem of_pinsAt {fp : List Addr} {h : Heap} {p : Addr × Obj} (hp : p ∈ pinsAt fp h) : p.1 ∈ fp ∧ h.get? p.1 = some p.2 := by
  obtain ⟨b, hb, e⟩ := List.mem_filterMap.mp hp
  cases q : h.get? b with
  | none => rw [q] at e; cases e
  | some o =>
    rw [q] at e
    have e' : (b, o) = p := Option.some.inj e
    subst e'
    exact ⟨hb, q⟩
theorem Inv.pinned {pins : List (Addr × Obj)} {σ : St} {H : Hp} {s : Shared} {fp : List Addr} (I : Inv X pins σ H s) (hf : ∀ b ∈ fp, FpOk X pins H b) (ho : ∀ b ∈ fp, ∃ o, s.heap.get? b = some o ∧ ∀ v, o.data ≠ .cell v) : Inv X (pins ++ pinsAt fp s.heap) σ H s :=
  I.pins_of fun p hp => (List.mem_append.mp hp).elim (fun z => I.pin p (List.mem_append_right _ z)) fun z => by
    obtain ⟨hb, e⟩ := of_pinsAt z
    obtain ⟨f0, f1, f2, _⟩ := hf p.1 hb
    obtain ⟨o, e', d⟩ := ho p.1 hb
    rw [e] at e'; cases e'
    exact ⟨e, f0, f1, f2, d⟩
theorem Inv.unpinned {pins pl : List (Addr × Obj)} {σ : St} {H : Hp} {s : Shared} (I : Inv X (pins ++ pl) σ H s) : Inv X pins σ H s := I.pins_of fun p hp => I.pin p (List.mem_append_right _ (List.mem_append_left _ hp))
theorem ps_for {iter : Expr} {body : List Stmt} {wi : TI} {g : TG} {tb : TS} {pos : Pos} (hp : PassesOwn (model X.prog X.w) X.A X.env X.xe) (hc : X.calm = true) (hi : PI X tg iter wi) (hg : PG X tg g) (hb : PSs X body tb)
    (hs : ∀ x, foldedSetIterable iter X.env x = pure x := by intro _; rfl) : PS X (.For tg iter body [] pos) (tFor wi g tb) := by
  intro pins s σ H D I h
  refine wpAny_For (thn (hi pins s σ H _ I h) fun v s1 h1 => thn h1 fun itv s2 h2 => ?_) hs
  obtain ⟨it, fp, tn, J, H2, e, I2, T, st2, f2, W, ⟨m0, w0⟩, turn⟩ := h2
  subst e
  -- what stays true of the iterator's objects through the loop
  have stat : ∀ {H' : Hp}, (∀ b ∈ fp, H' b = none) → ∀ b ∈ fp, FpOk X pins H' b := fun hn b hb => ⟨hn b hb, (f2 b hb).2⟩
  refine codeAny_forLoop_any (fun n s' => ∃ i σ' H', Inv X pins σ' H' s' ∧ tn i s'.heap ∧ (∀ b ∈ fp, H' b = none) ∧ W i n σ' H') ?_ m0 ⟨0, σ, H2, I2, st2, fun b hb => (f2 b hb).1, w0⟩
  rintro n s3 ⟨i, σ3, H3, I3, st3, fr3, w3⟩
  rcases turn i n σ3 H3 w3 with ⟨stop, qn⟩ | ⟨go, N, hN, step⟩
  · refine wpAny_passesOwn hp (thn (T.done X rfl rfl rfl hc i pins s3 σ3 H3 X.xe I3 (stat fr3) st3 stop) fun r s4 ⟨hr, I4⟩ => ?_)
    subst hr
    exact wpAny_execs_nil ⟨σ3, H3, I4, qn⟩
  · refine wpAny_passesOwn hp (thn (T.item X rfl rfl rfl hc i pins s3 σ3 H3 X.xe I3 (stat fr3) st3 go) fun r s4 ⟨u, hr, h4⟩ => ?_)
    subst hr
    refine wpAny_passesOwn hp (thn h4 fun _ s5 hq12 => ?_)
    obtain ⟨x, H5, I5, r5, y5, st5, fr5⟩ := hq12
    have I5' := I5.pinned (stat fr5) (T.obj _ _ st5)
    refine wpAny_passesOwn hp (thn (hg _ s5 σ3 H5 x u _ I5' r5 (step x H5 y5)) fun _ s6 hq13 => ?_)
    obtain ⟨σ6, H6, I6, q6⟩ := hq13
    refine wpAny_passesOwn hp (thn (hb _ s6 σ6 H6 _ I6 q6) fun f s7 q7 => ?_)
    have again : ∀ {σ7 : St} {H7 : Hp}, Inv X (pins ++ pinsAt fp s5.heap) σ7 H7 s7 → N σ7 H7 → ∃ m, m < n ∧ ∃ i σ' H', Inv X pins σ' H' s7 ∧ tn i s7.heap ∧ (∀ b ∈ fp, H' b = none) ∧ W i m σ' H' := fun {σ7 H7} I7 n7 => by
      obtain ⟨m', hm, w7⟩ := hN σ7 H7 n7
      refine ⟨m', hm, i + 1, σ7, H7, I7.unpinned, T.keep _ _ _ st5 fun b hb o e => (I7.pin (b, o) (List.mem_append_right _ (List.mem_append_right _ (mem_pinsAt hb e)))).1, fun b hb => ?_, w7⟩
      obtain ⟨o, e, d⟩ := T.obj _ _ st5 b hb
      exact (I7.pin (b, o) (List.mem_append_right _ (List.mem_append_right _ (mem_pinsAt hb e)))).2.1
    cases f with
    | next => obtain ⟨σ7, H7, I7, n7⟩ := q7; exact again I7 n7
    | cont => obtain ⟨σ7, H7, I7, n7⟩ := q7; exact again I7 n7
    | brk => obtain ⟨σ7, H7, I7, q7⟩ := q7; exact ⟨σ7, H7, I7.unpinned, q7⟩
    | ret v => obtain ⟨x7, σ7, H7, I7, r7, q7⟩ := q7; exact ⟨x7, σ7, H7, I7.unpinned, r7, q7⟩
end
end L2
namespace L2
open PySem PySem.Spec PyProof.Rows
abbrev R2 := V → V → Hp → VK → Prop
def OpR (X : Cx) (f : Value → Value → Sem Value) (r : R2) : Prop :=
  ∀ (pins : List (Addr × Obj)) (s : Shared) (σ : St) (H : Hp) (x y : V) (v u : Value) (Q : VK), Inv X pins σ H s → RelV x v → RelV y u → r x y H Q →
    wpAny (model X.prog X.w) X.A (f v u) (EP X pins σ Q) X.xe s
def UnR (X : Cx) (f : Value → Sem Value) (r : V → Hp → VK → Prop) : Prop :=
  ∀ (pins : List (Addr × Obj)) (s : Shared) (σ : St) (H : Hp) (x : V) (v : Value) (Q : VK), Inv X pins σ H s → RelV x v → r x H Q →
    wpAny (model X.prog X.w) X.A (f v) (EP X pins σ Q) X.xe s
def CallR (X : Cx) (f : Value) (r : List V → Hp → VK → Prop) : Prop :=
  ∀ (pins : List (Addr × Obj)) (s : Shared) (σ : St) (H : Hp) (xs : List V) (us : List Value) (Q : VK), Inv X pins σ H s → Vals xs us → r xs H Q →
    wpAny (model X.prog X.w) X.A (call f us) (EP X pins σ Q) X.xe s
def tOp (r : R2) (ta tb : TE) : TE := fun σ H Q => ta σ H fun x H1 => tb σ H1 fun y H2 => r x y H2 Q
def tUn (r : V → Hp → VK → Prop) (ta : TE) : TE := fun σ H Q => ta σ H fun x H1 => r x H1 Q
def rI (C : Int → Int → Prop) (g : Int → Int → V) : R2 := fun x y H Q => ∃ i j, x = .int i ∧ y = .int j ∧ C i j ∧ Q (g i j) H
def rI0 (g : Int → Int → V) : R2 := fun x y H Q => ∃ i j, x = .int i ∧ y = .int j ∧ Q (g i j) H
def rU (g : Int → V) : V → Hp → VK → Prop := fun x H Q => ∃ i, x = .int i ∧ Q (g i) H

section
variable {X : Cx} {a b c : Expr} {ta tb tc : TE} {pos : Pos}
theorem binT (ha : PE X a ta) (hb : PE X b tb) {pins : List (Addr × Obj)} {s : Shared} {σ : St} {H : Hp} {R : V → V → Hp → Prop} (I : Inv X pins σ H s)
    (h : ta σ H fun x H1 => tb σ H1 fun y H2 => R x y H2) {Q : Value → Shared → Prop} {f : Value → Value → Sem Value}
    (hf : ∀ v u s2 x y H2, Inv X pins σ H2 s2 → RelV x v → RelV y u → R x y H2 → wpAny (model X.prog X.w) X.A (f v u) Q X.xe s2) :
    wpAny (model X.prog X.w) X.A (eval a X.env) (fun v s₁ => wpAny (model X.prog X.w) X.A (eval b X.env) (fun u s₂ => wpAny (model X.prog X.w) X.A (f v u) Q X.xe s₂) X.xe s₁) X.xe s := by
  refine thn (ha pins s σ H _ I h) fun v s1 hq14 => ?_
  obtain ⟨x, H1, I1, r1, q1⟩ := hq14
  refine thn (hb pins s1 σ H1 _ I1 q1) fun u s2 hq15 => ?_
  obtain ⟨y, H2, I2, r2, q2⟩ := hq15
  exact hf v u s2 x y H2 I2 r1 r2 q2

theorem pe_op {op : Operator} {r : R2} (ho : OpR X (binaryOp op) r) (ha : PE X a ta) (hb : PE X b tb) : PE X (.BinOp a op b pos) (tOp r ta tb) := by
  intro pins s σ H Q I h
  exact wpAny_BinOp (binT ha hb I h fun v u s2 x y H2 I2 rx ry q => ho pins s2 σ H2 x y v u Q I2 rx ry q)
theorem pe_un {op : UnaryOp} {r : V → Hp → VK → Prop} (ho : UnR X (unaryOp op) r) (ha : PE X a ta) : PE X (.UnaryOp op a pos) (tUn r ta) := by
  intro pins s σ H Q I h
  exact UnaryOp_ (thn (ha pins s σ H _ I h) fun v s1 ⟨x, H1, I1, r1, q1⟩ => ho pins s1 σ H1 x v Q I1 r1 q1)
theorem opI {f : Value → Value → Sem Value} {C : Int → Int → Prop} {g : Int → Int → Int}
    (rule : ∀ (i j : Int) (t u : Tok) (s : Shared) (Q : Value → Shared → Prop) (E : Value → Shared → Prop), C i j → Q (.int (g i j) s.toks) { s with toks := s.toks + 1 } → wpAny (model X.prog X.w) X.A (f (.int i t) (.int j u)) Q E s) :
    OpR X f (rI C fun i j => .int (g i j)) := by
  intro pins s σ H x y v u Q I rx ry h
  obtain ⟨i, j, rfl, rfl, hc, q⟩ := h
  obtain ⟨t, rfl⟩ := rx
  obtain ⟨t', rfl⟩ := ry
  exact rule i j t t' s _ _ hc ⟨.int (g i j), H, I.tok _, ⟨_, rfl⟩, q⟩
theorem opI0 {f : Value → Value → Sem Value} {g : Int → Int → Int}
    (rule : ∀ (i j : Int) (t u : Tok) (s : Shared) (Q : Value → Shared → Prop) (E : Value → Shared → Prop), Q (.int (g i j) s.toks) { s with toks := s.toks + 1 } → wpAny (model X.prog X.w) X.A (f (.int i t) (.int j u)) Q E s) :
    OpR X f (rI0 fun i j => .int (g i j)) := by
  intro pins s σ H x y v u Q I rx ry h
  obtain ⟨i, j, rfl, rfl, q⟩ := h
  obtain ⟨t, rfl⟩ := rx
  obtain ⟨t', rfl⟩ := ry
  exact rule i j t t' s _ _ ⟨.int (g i j), H, I.tok _, ⟨_, rfl⟩, q⟩
theorem opB0 {f : Value → Value → Sem Value} {g : Int → Int → Bool}
    (rule : ∀ (i j : Int) (t u : Tok) (s : Shared) (Q : Value → Shared → Prop) (E : Value → Shared → Prop), Q (.bool (g i j)) s → wpAny (model X.prog X.w) X.A (f (.int i t) (.int j u)) Q E s) :
    OpR X f (rI0 fun i j => .bl (g i j)) := by
  intro pins s σ H x y v u Q I rx ry h
  obtain ⟨i, j, rfl, rfl, q⟩ := h
  obtain ⟨t, rfl⟩ := rx
  obtain ⟨t', rfl⟩ := ry
  exact rule i j t t' s _ _ ⟨.bl (g i j), H, I, rfl, q⟩

def CDiv (i j : Int) : Prop := 0 < j ∧ j < 1073741824
def CMul (i j : Int) : Prop := (-(2 ^ 64) < i ∧ i < 2 ^ 64) ∨ (-(2 ^ 64) < j ∧ j < 2 ^ 64)
theorem CMul.ok {i j : Int} (h : CMul i j) : IntMulOk i j := by
  rcases h with ⟨h1, h2⟩ | ⟨h1, h2⟩
  · exact .of_left (intBits_le_64 h1 h2)
  · exact .of_right (intBits_le_64 h1 h2)
theorem op_add : OpR X (binaryOp .Add) (rI0 fun i j => .int (i + j)) := opI0 fun _ _ _ _ _ _ _ q => add_int q
theorem op_sub : OpR X (binaryOp .Sub) (rI0 fun i j => .int (i - j)) := opI0 fun _ _ _ _ _ _ _ q => sub_int q
theorem op_mul : OpR X (binaryOp .Mult) (rI CMul fun i j => .int (i * j)) := opI fun _ _ _ _ _ _ _ hc q => mul_int q hc.ok
theorem op_fdiv : OpR X (binaryOp .FloorDiv) (rI CDiv fun i j => .int (i / j)) := opI fun i j _ _ _ _ _ hc q => by
  have h1 : (0 : Int) < j := hc.1
  have h2 : j < 1073741824 := hc.2
  exact floordiv_int (by omega) (by rw [Int.fdiv_eq_ediv_of_nonneg i (by omega)]; exact q) (.inl (PyProof.noPylong_small (by omega)))
theorem op_mod : OpR X (binaryOp .Mod) (rI (fun _ j => 0 < j) fun i j => .int (i % j)) := opI fun i j _ _ _ _ _ hc q => by
  have h1 : (0 : Int) < j := hc
  exact mod_int' (by omega) (by rw [Int.fmod_eq_emod_of_nonneg i (by omega)]; exact q)
theorem unI {f : Value → Sem Value} {g : Int → Int}
    (rule : ∀ (i : Int) (t : Tok) (s : Shared) (Q : Value → Shared → Prop) (E : Value → Shared → Prop), Q (.int (g i) s.toks) { s with toks := s.toks + 1 } → wpAny (model X.prog X.w) X.A (f (.int i t)) Q E s) :
    UnR X f (rU fun i => .int (g i)) := by
  intro pins s σ H x v Q I rx h
  obtain ⟨i, rfl, q⟩ := h
  obtain ⟨t, rfl⟩ := rx
  exact rule i t s _ _ ⟨.int (g i), H, I.tok _, ⟨_, rfl⟩, q⟩
theorem un_neg : UnR X (unaryOp .USub) (rU fun i => .int (-i)) := unI fun _ _ _ _ _ q => neg_int q
end
def scal : V → V → Bool
  | .non, .non => true | .non, .int _ => true | .int _, .non => true | .non, .bl _ => true | .bl _, .non => true | .non, .str _ => true | .str _, .non => true
  | .int _, .int _ => true | .bl _, .bl _ => true | .str _, .str _ => true | .byt _, .byt _ => true
  | .int _, .str _ => true | .str _, .int _ => true | .bl _, .str _ => true | .str _, .bl _ => true
  | _, _ => false
def rEq : R2 := fun x y H Q => scal x y = true ∧ Q (.bl (decide (x = y))) H
def rNe : R2 := fun x y H Q => scal x y = true ∧ Q (.bl (!decide (x = y))) H

theorem dec_int {i j : Int} : decide (V.int i = V.int j) = (i == j) := by
  rw [Bool.eq_iff_iff]
  simp
theorem dec_bl {i j : Bool} : decide (V.bl i = V.bl j) = (i == j) := by
  rw [Bool.eq_iff_iff]
  simp
theorem dec_str {i j : Str} : decide (V.str i = V.str j) = (i == j) := by
  rw [Bool.eq_iff_iff]
  simp
theorem dec_byt {i j : Array UInt8} : decide (V.byt i = V.byt j) = (i.toList == j.toList) := by
  rw [Bool.eq_iff_iff]
  cases i
  cases j
  simp

section
variable {X : Cx} {a b c : Expr} {ta tb tc : TE} {pos : Pos}
theorem fin_bl {pins : List (Addr × Obj)} {σ : St} {H : Hp} {s : Shared} {Q : VK} {k k' : Bool} (I : Inv X pins σ H s) (q : Q (.bl k) H) (e : k = k') : EP X pins σ Q (.bool k') s := by
  subst e
  exact ⟨.bl k, H, I, rfl, q⟩
theorem op_eq : OpR X (compareOp .Eq) rEq := by
  intro pins s σ H x y v u Q I rx ry h
  obtain ⟨hs, q⟩ := h
  cases x with
  | non =>
    cases rx
    cases y with
    | non => cases ry; exact PySem.EqNone.eq_none_none (fin_bl I q (by simp))
    | bl j => cases ry; exact PySem.EqNone.eq_none_bool (fin_bl I q (by simp))
    | int j => obtain ⟨t', rfl⟩ := ry; exact PySem.EqNone.eq_none_int (fin_bl I q (by simp))
    | str j => obtain ⟨t', rfl⟩ := ry; exact PySem.EqNone.eq_none_str (fin_bl I q (by simp))
    | _ => exact absurd (show false = true from hs) Bool.false_ne_true
  | bl i =>
    cases rx
    cases y with
    | non => cases ry; exact PySem.EqNone.eq_bool_none (fin_bl I q (by simp))
    | bl j => cases ry; exact eq_bool (fin_bl I q dec_bl)
    | str j => obtain ⟨t', rfl⟩ := ry; exact PySem.EqMixed.eq_bool_str (fin_bl I q (by simp))
    | _ => exact absurd (show false = true from hs) Bool.false_ne_true
  | int i =>
    obtain ⟨t, rfl⟩ := rx
    cases y with
    | non => cases ry; exact PySem.EqNone.eq_int_none (fin_bl I q (by simp))
    | int j => obtain ⟨t', rfl⟩ := ry; exact eq_int (fin_bl I q dec_int)
    | str j => obtain ⟨t', rfl⟩ := ry; exact PySem.EqMixed.eq_int_str (fin_bl I q (by simp))
    | _ => exact absurd (show false = true from hs) Bool.false_ne_true
  | str i =>
    obtain ⟨t, rfl⟩ := rx
    cases y with
    | non => cases ry; exact PySem.EqNone.eq_str_none (fin_bl I q (by simp))
    | bl j => cases ry; exact PySem.EqMixed.eq_str_bool (fin_bl I q (by simp))
    | int j => obtain ⟨t', rfl⟩ := ry; exact PySem.EqMixed.eq_str_int (fin_bl I q (by simp))
    | str j => obtain ⟨t', rfl⟩ := ry; exact eq_str (fin_bl I q dec_str)
    | _ => exact absurd (show false = true from hs) Bool.false_ne_true
  | byt i =>
    obtain ⟨t, rfl⟩ := rx
    cases y with
    | byt j => obtain ⟨t', rfl⟩ := ry; exact PySem.W.eq_bytes (fin_bl I q dec_byt)
    | _ => exact absurd (show false = true from hs) Bool.false_ne_true
  | _ => cases y <;> exact absurd (show false = true from hs) Bool.false_ne_true
theorem op_ne : OpR X (compareOp .NotEq) rNe := by
  intro pins s σ H x y v u Q I rx ry h
  obtain ⟨hs, q⟩ := h
  cases x with
  | non =>
    cases rx
    cases y with
    | non => cases ry; exact PySem.EqNone.ne_none_none (fin_bl I q (by simp))
    | bl j => cases ry; exact PySem.EqNone.ne_none_bool (fin_bl I q (by simp))
    | int j => obtain ⟨t', rfl⟩ := ry; exact PySem.EqNone.ne_none_int (fin_bl I q (by simp))
    | str j => obtain ⟨t', rfl⟩ := ry; exact PySem.EqNone.ne_none_str (fin_bl I q (by simp))
    | _ => exact absurd (show false = true from hs) Bool.false_ne_true
  | bl i =>
    cases rx
    cases y with
    | non => cases ry; exact PySem.EqNone.ne_bool_none (fin_bl I q (by simp))
    | bl j => cases ry; exact ne_bool (fin_bl I q (congrArg not dec_bl))
    | str j => obtain ⟨t', rfl⟩ := ry; exact PySem.EqMixed.ne_bool_str (fin_bl I q (by simp))
    | _ => exact absurd (show false = true from hs) Bool.false_ne_true
  | int i =>
    obtain ⟨t, rfl⟩ := rx
    cases y with
    | non => cases ry; exact PySem.EqNone.ne_int_none (fin_bl I q (by simp))
    | int j => obtain ⟨t', rfl⟩ := ry; exact ne_int (fin_bl I q (congrArg not dec_int))
    | str j => obtain ⟨t', rfl⟩ := ry; exact PySem.EqMixed.ne_int_str (fin_bl I q (by simp))
    | _ => exact absurd (show false = true from hs) Bool.false_ne_true
  | str i =>
    obtain ⟨t, rfl⟩ := rx
    cases y with
    | non => cases ry; exact PySem.EqNone.ne_str_none (fin_bl I q (by simp))
    | bl j => cases ry; exact PySem.EqMixed.ne_str_bool (fin_bl I q (by simp))
    | int j => obtain ⟨t', rfl⟩ := ry; exact PySem.EqMixed.ne_str_int (fin_bl I q (by simp))
    | str j => obtain ⟨t', rfl⟩ := ry; exact ne_str (fin_bl I q (congrArg not dec_str))
    | _ => exact absurd (show false = true from hs) Bool.false_ne_true
  | byt i =>
    obtain ⟨t, rfl⟩ := rx
    cases y with
    | byt j => obtain ⟨t', rfl⟩ := ry; exact PySem.W.ne_bytes (fin_bl I q (congrArg not dec_byt))
    | _ => exact absurd (show false = true from hs) Bool.false_ne_true
  | _ => cases y <;> exact absurd (show false = true from hs) Bool.false_ne_true

theorem op_lt : OpR X (compareOp .Lt) (rI0 fun i j => .bl (decide (i < j))) := opB0 fun _ _ _ _ _ _ _ q => lt_int q
theorem op_gt : OpR X (compareOp .Gt) (rI0 fun i j => .bl (decide (j < i))) := opB0 fun _ _ _ _ _ _ _ q => gt_int q
theorem op_ge : OpR X (compareOp .GtE) (rI0 fun i j => .bl (decide (j ≤ i))) := opB0 fun _ _ _ _ _ _ _ q => ge_int q
theorem op_isN : OpR X (compareOp .Is) (fun x y H Q => y = .non ∧ Q (.bl (decide (x = .non))) H) := by
  intro pins s σ H x y v u Q I rx ry h
  obtain ⟨rfl, q⟩ := h
  cases ry
  refine is_none_gen (fin_bl I q ?_)
  cases x <;> first
    | (cases rx; rfl)
    | (obtain ⟨t, rfl⟩ := rx; rfl)
theorem op_notN : OpR X (compareOp .IsNot) (fun x y H Q => y = .non ∧ Q (.bl (!decide (x = .non))) H) := by
  intro pins s σ H x y v u Q I rx ry h
  obtain ⟨rfl, q⟩ := h
  cases ry
  refine isnot_none_gen (fin_bl I q ?_)
  cases x <;> first
    | (cases rx; rfl)
    | (obtain ⟨t, rfl⟩ := rx; rfl)

theorem OpR.or {f : Value → Value → Sem Value} {r r' : R2} (h : OpR X f r) (h' : OpR X f r') : OpR X f (fun x y H Q => r x y H Q ∨ r' x y H Q) := by
  intro pins s σ H x y v u Q I rx ry q
  rcases q with q | q
  · exact h pins s σ H x y v u Q I rx ry q
  · exact h' pins s σ H x y v u Q I rx ry q

theorem pe_cmpR {op : CmpOp} {r : R2} (ho : OpR X (compareOp op) r) (ha : PE X a ta) (hb : PE X b tb) (hm : behindInMarks op b = false) : PE X (.Compare a [op] [b] pos) (tOp r ta tb) := by
  intro pins s σ H Q I h
  exact wpAny_Compare1 (binT ha hb I h fun v u s2 x y H2 I2 rx ry q => ho pins s2 σ H2 x y v u Q I2 rx ry q) hm
def tTest (t : TE) : TT := fun σ H Q => t σ H fun x H' => ∃ k, x = .bl k ∧ Q k H'
theorem pt_cmpR {op : CmpOp} {r : R2} (ho : OpR X (compareOp op) r) (ha : PE X a ta) (hb : PE X b tb) (hm : behindInMarks op b = false) : PT X (.Compare a [op] [b] pos) (tTest (tOp r ta tb)) := by
  intro pins s σ H Q I h
  refine wpAny_isTrue_Compare1 (thn (ha pins s σ H _ I h) fun v s1 ⟨x, H1, I1, r1, q1⟩ => thn (hb pins s1 σ H1 _ I1 q1) fun u s2 ⟨y, H2, I2, r2, q2⟩ =>
    thn (ho pins s2 σ H2 x y v u _ I2 r1 r2 q2) fun c s3 ⟨z, H3, I3, r3, k, e, q3⟩ => ?_) hm
  subst e
  cases r3
  exact wpAny_truthy_bool ⟨H3, I3, q3⟩
def TruV (K : PySem.W.Frag) (x : V) (H : Hp) (k : Bool) : Prop :=
  match x with
  | .non => k = false
  | .bl b => k = b
  | .int i => k = (i != 0)
  | .str y => y.length ≤ sizeLine ∧ k = ((y.length : Int) != 0)
  | .byt y => y.size ≤ sizeLine ∧ k = ((y.size : Int) != 0)
  | .ref p => (∃ xs, SqL K H p xs ∧ k = !xs.isEmpty) ∨ (∃ xs, SqT K H p xs ∧ k = !xs.isEmpty) ∨ ∃ kvs, H p = some (.dK kvs) ∧ k = !kvs.isEmpty
  | _ => False
theorem line63 : (sizeLine : Nat) < 2 ^ 63 := by rw [sizeLine_eq]; decide
theorem op_add_str : OpR X (binaryOp .Add) (fun x y H Q => ∃ i j, x = .str i ∧ y = .str j ∧ i.length + j.length ≤ sizeLine ∧ Q (.str (i ++ j)) H) := by
  intro pins s σ H x y v u Q I rx ry h
  obtain ⟨i, j, rfl, rfl, hz, q⟩ := h
  obtain ⟨t, rfl⟩ := rx
  obtain ⟨t', rfl⟩ := ry
  exact add_str (fun t' tk => ⟨.str (i ++ j), H, I.tok _, ⟨_, rfl⟩, q⟩) hz
theorem vals1 {x : V} {us : List Value} (r : Vals [x] us) : ∃ u, us = [u] ∧ RelV x u := by
  cases r with
  | cons r1 r2 => cases r2; exact ⟨_, rfl, r1⟩
theorem vals2 {x y : V} {us : List Value} (r : Vals [x, y] us) : ∃ u w', us = [u, w'] ∧ RelV x u ∧ RelV y w' := by
  cases r with
  | cons r1 r2 =>
    cases r2 with
    | cons r3 r4 => cases r4; exact ⟨_, _, rfl, r1, r3⟩
theorem call_abs : CallR X (.builtin "abs") (fun xs H Q => ∃ i, xs = [.int i] ∧ Q (.int (if i < 0 then -i else i)) H) := by
  intro pins s σ H xs us Q I r h
  obtain ⟨i, rfl, q⟩ := h
  obtain ⟨u, rfl, t, rfl⟩ := vals1 r
  exact call_abs_int fun u tk => ⟨.int (if i < 0 then -i else i), H, I.tok _, ⟨_, rfl⟩, q⟩
theorem call_max2 (hc : X.calm = true) : CallR X (.builtin "max") (fun xs H Q => ∃ i j, xs = [.int i, .int j] ∧ Q (.int (if j > i then j else i)) H) := by
  intro pins s σ H xs us Q I r h
  obtain ⟨i, j, rfl, q⟩ := h
  obtain ⟨u, w', rfl, ⟨t, rfl⟩, ⟨t', rfl⟩⟩ := vals2 r
  refine max_two_ints (I.ok.hd hc) fun h' tk k => ⟨_, H, I.kept k, ?_, q⟩
  by_cases hj : j > i
  · rw [if_pos hj, if_pos hj]; exact ⟨_, rfl⟩
  · rw [if_neg hj, if_neg hj]; exact ⟨_, rfl⟩
theorem call_int1 : CallR X (.type "int") (fun xs H Q => (∃ i, xs = [.int i] ∧ Q (.int i) H) ∨ ∃ k, xs = [.bl k] ∧ Q (.int (if k then 1 else 0)) H) := by
  intro pins s σ H xs us Q I r h
  rcases h with ⟨i, rfl, q⟩ | ⟨k, rfl, q⟩
  · obtain ⟨u, rfl, t, rfl⟩ := vals1 r
    exact call_int_int ⟨.int i, H, I, ⟨_, rfl⟩, q⟩
  · obtain ⟨u, rfl, r1⟩ := vals1 r
    cases r1
    exact call_int_bool ⟨.int (if k then 1 else 0), H, I.tok _, ⟨_, rfl⟩, q⟩
def LenV (K : PySem.W.Frag) (x : V) (H : Hp) (n : Nat) : Prop :=
  match x with
  | .str y => y.length ≤ sizeLine ∧ n = y.length
  | .byt y => y.size ≤ sizeLine ∧ n = y.size
  | .ref p => (∃ xs, SqL K H p xs ∧ n = xs.length) ∨ ∃ xs, SqT K H p xs ∧ n = xs.length
  | _ => False
theorem call_len : CallR X (.builtin "len") (fun xs H Q => ∃ x n, xs = [x] ∧ LenV X.K x H n ∧ Q (.int n) H) := by
  intro pins s σ H xs us Q I r h
  obtain ⟨x, n, rfl, e, q⟩ := h
  obtain ⟨u, rfl, rx⟩ := vals1 r
  have hl := line63
  have hs : sizeLine = 16777216 := sizeLine_eq
  cases x with
  | str y =>
    obtain ⟨t, rfl⟩ := rx
    obtain ⟨hy, e'⟩ : y.length ≤ sizeLine ∧ n = y.length := e
    subst e'
    exact len_str (by omega) ⟨.int _, H, I.tok _, ⟨_, rfl⟩, q⟩
  | byt y =>
    obtain ⟨t, rfl⟩ := rx
    obtain ⟨hy, e'⟩ : y.size ≤ sizeLine ∧ n = y.size := e
    subst e'
    exact PySem.W.len_bytes (by omega) ⟨.int _, H, I.tok _, ⟨_, rfl⟩, q⟩
  | ref p =>
    cases rx
    have e' : (∃ xs, SqL X.K H p xs ∧ n = xs.length) ∨ ∃ xs, SqT X.K H p xs ∧ n = xs.length := e
    rcases e' with ⟨xs, hx, e'⟩ | ⟨xs, hx, e'⟩
    · subst e'
      obtain ⟨its, r', pl, hz⟩ := I.list hx
      have hlen := r'.length
      exact Calls.call_len_list pl.isList (by simp only [List.size_toArray]; omega) ⟨.int xs.length, H, I.tok _, ⟨_, by simp only [List.size_toArray]; rw [hlen]⟩, q⟩
    · subst e'
      obtain ⟨its, r', pl, hz⟩ := I.tuple hx
      have hlen := r'.length
      exact len_tuple pl (by simp only [List.size_toArray]; omega) ⟨.int xs.length, H, I.tok _, ⟨_, by simp only [List.size_toArray]; rw [hlen]⟩, q⟩
  | _ => exact (show False from e).elim
end
end L2
namespace L2
open PySem PySem.Spec PyProof.Rows
structure ObjM (h : Heap) (x dx C : Addr) (mA : Str → Option Value) : Prop where
  obj : h.get? x = some (PySem.W.instObj C dx)
  ns : h.Ns1 dx mA
  ne : dx ≠ x

theorem lookIn_ns {h : Heap} {dx : Addr} {mA : Str → Option Value} (n : h.Ns1 dx mA) : ∃ od, h.get? dx = some od ∧ ∀ name, PySem.W.lookIn name od = some (mA name) := by
  obtain ⟨o, es, ep, ho, hd, hk, _, hm⟩ := n
  refine ⟨o, ho, fun name => ?_⟩
  have e := hm name
  unfold nsFind findBy at e
  rw [← Array.find?_toList] at e
  unfold PySem.W.lookIn
  rw [hd]
  dsimp only
  split
  · rename_i y q
    rw [q] at e
    exact congrArg some e
  · rename_i q
    rw [q] at e
    have a : es.toList.any (·.refKey) = false := by
      rw [List.any_eq_false]
      intro y hy
      obtain ⟨z, t, hkey⟩ := hk y (Array.mem_toList_iff.mp hy)
      simp [DictEntry.refKey, hkey]
    have a' : ¬ es.toList.any (·.refKey) = true := by rw [a]; exact Bool.false_ne_true
    rw [if_neg a']
    exact congrArg some e

theorem ObjM.look {h : Heap} {x dx C : Addr} {mA : Str → Option Value} (I : ObjM h x dx C mA) : ∃ od, PySem.W.InstAt h x (PySem.W.instObj C dx) C (some od) ∧ ∀ name, PySem.W.lookIn name od = some (mA name) :=
  let ⟨od, ho, hl⟩ := lookIn_ns I.ns
  ⟨od, ⟨I.obj, rfl, rfl, ho⟩, hl⟩

section
variable {prog : Program} {w : World} {A : Around} {E : Value → Shared → Prop} {s : Shared} {K : PySem.W.Frag} {x dx C f : Addr} {mA : Str → Option Value} {name : Str} {v : Value}
theorem get_map {expr : Bool} {Q : Value → Shared → Prop} (X : K.In s.heap) (I : ObjM s.heap x dx C mA) (hg : PySem.W.plainGet K C name = true) (hh : PySem.W.hasDictIn K C = true)
    (ha : PySem.W.findIn K (.ref C) name = some none) (hv : mA name = some v) (hv' : PySem.W.handedIn v = true) (h : Q v { s with toks := s.toks + 1 }) :
    wpAny (model prog w) A (getAttr (.ref x) name expr) Q E s := by
  obtain ⟨od, J, hl⟩ := I.look
  exact PySem.W.get_value X J (PySem.W.plainGet_of hg).1 (PySem.W.findObj_own hh ha rfl (by rw [hl, hv])) hv' h

theorem get_meth {pl : Sem Bool} {Q : Value × List Value → Shared → Prop} (X : K.In s.heap) (I : ObjM s.heap x dx C mA) (hg : PySem.W.plainGet K C name = true)
    (hf : PySem.W.findIn K (.ref C) name = some (some (.ref f))) (ht : PySem.W.isFn K (.ref f) = true) (hv : mA name = none) (h : Q (.ref f, [.ref x]) s) :
    wpAny (model prog w) A (getMethod (.ref x) name pl) Q E s := by
  obtain ⟨od, J, hl⟩ := I.look
  exact PySem.W.method_fn X J (PySem.W.plainGet_of hg).1 (PySem.W.plainGet_of hg).2 hf (beq_iff_eq.mp ht) (by show (PySem.W.lookIn name od).map (·.isSome) = some false; rw [hl, hv]; rfl) h

theorem set_map {ns : List Str} {Q : Unit → Shared → Prop} (X : K.In s.heap) (I : ObjM s.heap x dx C mA)
    (hs : PySem.W.findIn K (.ref C) "__setattr__" = some (some (.builtin "object.__setattr__"))) (hp : PySem.W.plainOver K C = true) (ht : PySem.W.takerIn K C name = some none) (hh : PySem.W.hasDictIn K C = true)
    (hw : PySem.Within mA ns) (hsz : ns.length ≤ sizeLine)
    (h : ∀ h', ObjM h' x dx C (fun y => if y = name then some v else mA y) → Heap.SameBut dx s.heap h' → Q () { s with heap := h', toks := s.toks + 2 }) :
    wpAny (model prog w) A (setAttr (.ref x) name v) Q E s := by
  obtain ⟨od, J, hl⟩ := I.look
  refine PySem.W.set_plain X J hs (PySem.W.osa_open (s := { s with toks := s.toks + 1 }) (r := none) X J hp ht fun b => ?_)
  obtain ⟨cd, hc, hd'⟩ := PySem.W.any_some hh
  have hx : s.heap.get? x = some ⟨.ref C, some dx, .plain, #[]⟩ := I.obj
  refine wpAny_bind (wpAny_pure (wpAny_bind (wpAny_bind (wpAny_loadPart hx (wpAny_bind (PySem.W.Looks.here (s := { s with toks := s.toks + 1 }) (PySem.W.looks_clsIn X hc) ?_))))))
  rw [hd']
  refine wpAny_pure (a := some dx) (wpAny_bind (wpAny_pure (wpAny_bind ?_)))
  refine wpAny_nsSet1 (s := { s with toks := s.toks + 1 }) I.ns fun h' hn2 hs2 => ?_
  obtain ⟨oD, esD, epD, hoD, hdD, hcD⟩ := hn2.count (PySem.Within.cons name v hw)
  refine wpAny_bind (wpAny_lookBehind hoD (by rw [hdD]; exact pastItsLine_dict (Nat.le_trans hcD (by rw [List.length_cons]; omega))) ?_)
  exact wpAny_pure (h _ ⟨(hs2.2 _ (Ne.symm I.ne)).trans I.obj, hn2, I.ne⟩ hs2)

theorem make_map {R : Result → Shared → Prop} {vs : List Value} {kw : List (Str × Value)} (X : K.In s.heap) (hm : PySem.W.makesIn K C = true)
    (hi : PySem.W.findIn K (.ref C) "__init__" = some (some (.ref f))) (hf : PySem.W.typeIn K (.ref f) = some (.type "function"))
    (h : codeAny (model prog w) (A.under (.builtin "type.__call__" ⟨.ref C :: vs, kw⟩)) (.call (.ref f) ⟨.ref (s.heap.objs.size + 1) :: vs, kw⟩) (PySem.W.InitBack (s.heap.objs.size + 1) R)
      { s with heap := (s.heap.push PySem.W.emptyDict).push (PySem.W.instObj C s.heap.objs.size) }) :
    codeAny (model prog w) A (.call (.ref C) ⟨vs, kw⟩) R s := by
  obtain ⟨hh, g, d, t, os⟩ := s
  exact PySem.W.make_core (PySem.W.makes_of X hm) (PySem.W.looks_findIn X hi) (fun self => PySem.W.bind_fn X self hf) (.inl rfl) h
end
def putF (f : Str) (v : V) : List (Str × V) → List (Str × V)
  | [] => [(f, v)]
  | (g, x) :: r => if g = f then (g, v) :: r else (g, x) :: putF f v r
theorem lookup_putF (f g : Str) (v : V) : ∀ fs : List (Str × V), (putF f v fs).lookup g = if g = f then some v else fs.lookup g
  | [] => by
    show List.lookup g [(f, v)] = _
    by_cases h : g = f
    · have hb : (g == f) = true := beq_iff_eq.mpr h
      simp only [List.lookup, hb, if_pos h]
    · have hb : (g == f) = false := beq_eq_false_iff_ne.mpr h
      simp only [List.lookup, hb, if_neg h]
  | (k, x) :: r => by
    have ih := lookup_putF f g v r
    rw [show putF f v ((k, x) :: r) = (if k = f then (k, v) :: r else (k, x) :: putF f v r) from rfl]
    by_cases hk : k = f
    · rw [if_pos hk]
      by_cases h : g = k
      · have hb : (g == k) = true := beq_iff_eq.mpr h
        simp only [List.lookup, hb, if_pos (h.trans hk)]
      · have hb : (g == k) = false := beq_eq_false_iff_ne.mpr h
        simp only [List.lookup, hb, if_neg (fun e : g = f => h (e.trans hk.symm))]
    · rw [if_neg hk]
      by_cases h : g = k
      · have hb : (g == k) = true := beq_iff_eq.mpr h
        simp only [List.lookup, hb, if_neg (fun e : g = f => hk (h.symm.trans e))]
      · have hb : (g == k) = false := beq_eq_false_iff_ne.mpr h
        simp only [List.lookup, hb]
        exact ih
theorem keys_putF (f : Str) (v : V) : ∀ fs : List (Str × V), f ∈ (putF f v fs).map (·.1) ∧ ∀ g, g ∈ fs.map (·.1) → g ∈ (putF f v fs).map (·.1)
  | [] => ⟨by simp [putF], fun g h => by simp at h⟩
  | (k, x) :: r => by
    obtain ⟨i1, i2⟩ := keys_putF f v r
    rw [show putF f v ((k, x) :: r) = (if k = f then (k, v) :: r else (k, x) :: putF f v r) from rfl]
    by_cases hk : k = f
    · rw [if_pos hk]
      subst hk
      exact ⟨by simp, fun g h => by simpa using h⟩
    · rw [if_neg hk]
      refine ⟨?_, fun g h => ?_⟩
      · rw [List.map_cons]
        exact List.mem_cons_of_mem _ i1
      · rw [List.map_cons] at h ⊢
        rcases List.mem_cons.mp h with e | e
        · exact List.mem_cons.mpr (.inl e)
        · exact List.mem_cons_of_mem _ (i2 g e)
theorem length_putF (f : Str) (v : V) : ∀ fs : List (Str × V), (putF f v fs).length ≤ fs.length + 1
  | [] => by simp [putF]
  | (k, x) :: r => by
    have ih := length_putF f v r
    rw [show putF f v ((k, x) :: r) = (if k = f then (k, v) :: r else (k, x) :: putF f v r) from rfl]
    by_cases hk : k = f
    · rw [if_pos hk, List.length_cons, List.length_cons]; omega
    · rw [if_neg hk, List.length_cons, List.length_cons]; omega

theorem RelO.some_of {v : V} {o : Option Value} (r : RelO (some v) o) : ∃ u, o = some u ∧ RelV v u := by
  cases o with
  | none => exact (show False from r).elim
  | some u => exact ⟨u, rfl, r⟩
theorem RelO.none_of {o : Option Value} (r : RelO none o) : o = none := by
  cases o with
  | none => rfl
  | some u => exact (show False from r).elim
theorem handed_of {v : V} {u : Value} (r : RelV v u) : PySem.W.handedIn u = true := by
  cases v with
  | non => cases (show u = Value.none from r); rfl
  | bl b => cases (show u = Value.bool b from r); rfl
  | int i => obtain ⟨t, e⟩ := (show ∃ t, u = Value.int i t from r); cases e; rfl
  | str x => obtain ⟨t, e⟩ := (show ∃ t, u = Value.str x t from r); cases e; rfl
  | byt b => obtain ⟨t, e⟩ := (show ∃ t, u = Value.bytes b t from r); cases e; rfl
  | flt b => obtain ⟨t, e⟩ := (show ∃ t, u = Value.float b t from r); cases e; rfl
  | ref a => cases (show u = Value.ref a from r); rfl
  | ty n => cases (show u = Value.type n from r); rfl

section
variable {P : Program} {w : World} {H H' : Hp} {h h' : Heap} {a C dx : Addr} {fs fs' : List (Str × V)}
theorem ins_get (hok : HOk P w H h) (e : H a = some (.ins C dx fs)) : ∃ mA, ObjM h a dx C mA ∧ (∀ f, RelO (fs.lookup f) (mA f)) ∧ PySem.Within mA (fs.map (·.1)) ∧ fs.length ≤ 1000 ∧ H dx = some (.own a) := by
  obtain ⟨d, z, ne, ob, mA, n, r, q⟩ := (show ObjOk P w H h a (.ins C dx fs) from hok a _ e)
  exact ⟨mA, ⟨ob, n, ne⟩, r, q, z, d⟩
end
structure Cls (K : PySem.W.Frag) (C : Addr) : Prop where
  pg : PySem.W.plainGet K C Str.empty = true
  hd : PySem.W.hasDictIn K C = true
  po : PySem.W.plainOver K C = true
  sa : PySem.W.findIn K (.ref C) "__setattr__" = some (some (.builtin "object.__setattr__"))
theorem Cls.get {K : PySem.W.Frag} {C : Addr} (c : Cls K C) (f : Str) : PySem.W.plainGet K C f = true := c.pg
def NoAttr (K : PySem.W.Frag) (C : Addr) (f : Str) : Prop := PySem.W.findIn K (.ref C) f = some none
theorem NoAttr.taker {K : PySem.W.Frag} {C : Addr} {f : Str} (n : NoAttr K C f) : PySem.W.takerIn K C f = some none := by
  unfold PySem.W.takerIn
  rw [show PySem.W.findIn K (.ref C) f = some none from n]
  rfl
structure Meth (K : PySem.W.Frag) (C : Addr) (m : Str) (f : Addr) : Prop where
  at_ : PySem.W.findIn K (.ref C) m = some (some (.ref f))
  fn : PySem.W.isFn K (.ref f) = true
  kp : PySem.W.keepIn K (.ref f) = true

section
variable {X : Cx} {pins : List (Addr × Obj)} {σ : St} {H : Hp} {s : Shared} {a C dx : Addr} {fs : List (Str × V)} {f : Str} {v : V} {A : Around} {E : Value → Shared → Prop}
theorem getattr_ok {b : Bool} {Q : Value → Shared → Prop} (I : Inv X pins σ H s) (e : H a = some (.ins C dx fs)) (c : Cls X.K C) (n : NoAttr X.K C f) (l : fs.lookup f = some v)
    (h : ∀ u s', Inv X pins σ H s' → RelV v u → Q u s') : wpAny (model X.prog X.w) A (getAttr (.ref a) f b) Q E s := by
  obtain ⟨mA, O, r, _, _, _⟩ := ins_get I.hok e
  obtain ⟨u, hu, ru⟩ := RelO.some_of (v := v) (o := mA f) (by rw [← l]; exact r f)
  exact get_map I.kIn O (c.get f) c.hd n hu (handed_of ru) (h u _ (I.tok _) ru)

theorem getmeth_ok {m : Str} {g : Addr} {pl : Sem Bool} {Q : Value × List Value → Shared → Prop} (I : Inv X pins σ H s) (e : H a = some (.ins C dx fs)) (c : Cls X.K C) (k : Meth X.K C m g) (l : fs.lookup m = none)
    (h : Q (.ref g, [.ref a]) s) : wpAny (model X.prog X.w) A (getMethod (.ref a) m pl) Q E s := by
  obtain ⟨mA, O, r, _, _, _⟩ := ins_get I.hok e
  have hn : mA m = none := RelO.none_of (by rw [← l]; exact r m)
  exact get_meth I.kIn O (c.get m) k.at_ k.fn hn h

theorem setattr_ok {y : V} {u : Value} {Q : Unit → Shared → Prop} (I : Inv X pins σ H s) (e : H a = some (.ins C dx fs)) (c : Cls X.K C) (n : NoAttr X.K C f) (hl : fs.length < 1000) (ry : RelV y u)
    (h : ∀ s', Inv X pins σ (upd H a (.ins C dx (putF f y fs))) s' → Q () s') : wpAny (model X.prog X.w) A (setAttr (.ref a) f u) Q E s := by
  obtain ⟨mA, O, r, wi, _, ho⟩ := ins_get I.hok e
  have hz : (fs.map (·.1)).length ≤ sizeLine := by rw [List.length_map, sizeLine_eq]; omega
  refine set_map I.kIn O c.sa c.po n.taker c.hd wi hz fun h' O' sb => h _ ?_
  have hd : ∃ o, h'.get? dx = some o := let ⟨o, _, _, e', _⟩ := O'.ns; ⟨o, e'⟩
  refine I.write (x := a) (e := dx) (by rw [e]; exact True.intro) (.inr ho) (fun b q hb z => (sb.2 b hb).trans z) hd ?_
  refine ⟨by rw [upd_ne O.ne]; exact ho, ?_, O.ne, O'.obj, _, O'.ns, fun g => ?_, fun g hg => ?_⟩
  · have := length_putF f y fs; omega
  · show RelO ((putF f y fs).lookup g) (if g = f then some u else mA g)
    rw [lookup_putF]
    by_cases q : g = f
    · rw [if_pos q, if_pos q]; exact ry
    · rw [if_neg q, if_neg q]; exact r g
  · by_cases q : g = f
    · rw [q]; exact (keys_putF f y fs).1
    · refine (keys_putF f y fs).2 g (wi g fun z => hg ?_)
      show (if g = f then some u else mA g) = none
      rw [if_neg q]; exact z

theorem Inv.made (I : Inv X pins σ H s) : Inv X pins σ (upd (upd H s.heap.objs.size (.own (s.heap.objs.size + 1))) (s.heap.objs.size + 1) (.ins C s.heap.objs.size []))
    { s with heap := (s.heap.push PySem.W.emptyDict).push (PySem.W.instObj C s.heap.objs.size) } := by
  have e1 : (s.heap.push PySem.W.emptyDict).get? s.heap.objs.size = some PySem.W.emptyDict := Heap.get?_push_size s.heap rfl
  have e2 : ((s.heap.push PySem.W.emptyDict).push (PySem.W.instObj C s.heap.objs.size)).get? (s.heap.objs.size + 1) = some (PySem.W.instObj C s.heap.objs.size) := by
    have := Heap.get?_push_size (s.heap.push PySem.W.emptyDict) (o := PySem.W.instObj C s.heap.objs.size) rfl
    rwa [Heap.size_push] at this
  have e3 : (s.heap.push PySem.W.emptyDict).Ns s.heap.objs.size (fun _ => none) := ⟨PySem.W.emptyDict, #[], _, e1, rfl, (fun e he => absurd he (by simp)), fun _ => rfl⟩
  have I1 := I.laid (a := s.heap.objs.size) (o := .own (s.heap.objs.size + 1)) (h' := s.heap.push PySem.W.emptyDict) (t' := s.toks) (fun b u q => Heap.get?_push_of_some _ q) (Nat.le_refl _) ⟨_, e1⟩
  refine I1.laid (a := s.heap.objs.size + 1) (o := .ins C s.heap.objs.size []) (t' := s.toks) (fun b u q => Heap.get?_push_of_some _ q) (Nat.le_of_eq (Heap.size_push _ _)) ?_
  have ne : s.heap.objs.size ≠ s.heap.objs.size + 1 := Nat.ne_of_lt (Nat.lt_succ_self _)
  refine ⟨by rw [upd_ne ne, upd_same], Nat.zero_le _, ne, e2, fun _ => none, (Heap.Ns1.of_empty e3).at fun o q => Heap.get?_push_of_some _ q, fun _ => True.intro, fun y hy => absurd rfl hy⟩

theorem attr_of {prog : Program} {w : World} {env : Env} {e : Expr} {f : Str} {pos : Pos} {s : Shared} {Q : Value → Shared → Prop} (hb : attributeBase e f env (eval e env) = eval e env)
    (h : wpAny (model prog w) A (eval e env) (fun o s₁ => wpAny (model prog w) A (getAttr o f true) Q E s₁) E s) : wpAny (model prog w) A (eval (.Attribute e f pos) env) Q E s :=
  Attribute_any_ h (by rw [arm_eval_Attribute, hb])
end
def tFld (K : PySem.W.Frag) (ta : TE) (f : Str) : TE := fun σ H Q => ta σ H fun x H1 => ∃ a C dx fs v, x = .ref a ∧ H1 a = some (.ins C dx fs) ∧ Cls K C ∧ NoAttr K C f ∧ fs.lookup f = some v ∧ Q v H1
def sFld (K : PySem.W.Frag) (ta tv : TE) (f : Str) : TS := fun D σ H => tv σ H fun y H1 => ta σ H1 fun x H2 => ∃ a C dx fs, x = .ref a ∧ H2 a = some (.ins C dx fs) ∧ Cls K C ∧ NoAttr K C f ∧ fs.length < 1000 ∧
  D.nx σ (upd H2 a (.ins C dx (putF f y fs)))
section
variable {X : Cx} {o e value : Expr} {f : Str} {pos pos' tpos : Pos} {ta tv : TE}
theorem pe_fld (he : PE X e ta) (hb : attributeBase e f X.env (eval e X.env) = eval e X.env) : PE X (.Attribute e f pos) (tFld X.K ta f) := by
  intro pins s σ H Q I h
  refine attr_of hb (thn (he pins s σ H _ I h) fun u s1 hq16 => ?_)
  obtain ⟨x, H1, I1, rx, a, C, dx, fs, v, ex, ea, c, n, l, q⟩ := hq16
  subst ex
  obtain rfl : u = Value.ref a := rx
  exact getattr_ok I1 ea c n l fun u' s2 I2 ru => ⟨v, H1, I2, ru, q⟩
theorem ps_fld (ha : PE X o ta) (hv : PE X value tv) (hs : swapsWith value (some (.Attribute o f pos')) pos.line X.env = pure false) : PS X (.Assign [.Attribute o f pos'] value pos) (sFld X.K ta tv f) := by
  intro pins s σ H D I h
  refine plainObj_wpAny_Assign_Attribute (thn (hv pins s σ H _ I h) fun u s1 ⟨y, H1, I1, ry, q⟩ => thn (ha pins s1 σ H1 _ I1 q) fun ov s2 ⟨x, H2, I2, rx, a, C, dx, fs, ex, ea, c, n, l, q2⟩ => ?_) hs
  subst ex
  obtain rfl : ov = Value.ref a := rx
  exact setattr_ok I2 ea c n l ry fun s3 I3 => ⟨σ, _, I3, q2⟩
end
section
variable {X : Cx} {pins : List (Addr × Obj)} {σ : St} {H : Hp} {s : Shared} {A : Around} {E : Value → Shared → Prop} {Q : Value → Shared → Prop} {c : Value} {b : Bool}
end
end L2
namespace L2
open PySem PySem.Spec PyProof.Rows
structure Room (k : Nat) (A : Around) : Prop where
  hd : A.handled = none
  gd : A.guards = some []
  dp : A.depth + 3 * k + 5 < recursionLimit
  un : A.units + 16 * k + 200 < cLine
theorem Room.mono {j k : Nat} {A : Around} (r : Room k A) (h : j ≤ k) : Room j A := ⟨r.hd, r.gd, by have := r.dp; omega, by have := r.un; omega⟩
theorem Room.deeper {k : Nat} {A : Around} (r : Room (k + 1) A) (env : Env) : Room k (A.deeper env) :=
  ⟨r.hd, r.gd, by have := r.dp; show A.depth + 1 + 3 * k + 5 < _; omega, by have := r.un; show A.units + 3 + 16 * k + 200 < _; omega⟩
theorem Room.in1 {k : Nat} {A : Around} (r : Room (k + 1) A) : Room k A.in1 :=
  ⟨r.hd, r.gd, by have := r.dp; show A.depth + 3 * k + 5 < _; omega, by have := r.un; show A.units + 1 + 16 * k + 200 < _; omega⟩
theorem make_depth {A : Around} {C : Addr} {us : List Value} {kw : List (Str × Value)} : (A.under (.builtin "type.__call__" ⟨.ref C :: us, kw⟩)).depth = A.depth + 1 := by
  first | rfl | simp [Around.under, Code.weight, Code.isCreation, Code.isGuard, Code.isCaller, Code.frames, Code.isFrame, guardIds]
theorem make_units {A : Around} {C : Addr} {us : List Value} {kw : List (Str × Value)} : (A.under (.builtin "type.__call__" ⟨.ref C :: us, kw⟩)).units = A.units + 1 := by
  first | rfl | simp [Around.under, Code.cUnits, Code.frames, Code.isFrame]
theorem Room.make {k : Nat} {A : Around} (r : Room (k + 1) A) (C : Addr) (us : List Value) (kw : List (Str × Value)) : Room k (A.under (.builtin "type.__call__" ⟨.ref C :: us, kw⟩)) :=
  ⟨r.hd, (by first | exact r.gd | (simpa [Around.under, Code.isGuard, Code.frames, Code.isFrame, guardIds] using r.gd)), by have := r.dp; rw [make_depth]; omega, by have := r.un; rw [make_units]; omega⟩
theorem Room.depth {k : Nat} {A : Around} (r : Room k A) : A.depth < recursionLimit := by have := r.dp; omega
theorem Room.units {k : Nat} {A : Around} (r : Room k A) : A.units + 64 < cLine := by have := r.un; omega
def tNil : TA := fun _ H Q => Q [] H
def tCons (ta : TE) (tr : TA) : TA := fun σ H Q => ta σ H fun x H1 => tr σ H1 fun xs H2 => Q (x :: xs) H2
section
variable {X : Cx} {e : Expr} {es : List Expr} {te : TE} {t : TA} {pos : Pos}
theorem pa_nil : PA X [] tNil := fun _ _ _ _ H Q I h => Calls.spliced_nil ⟨[], H, I, .nil, h⟩
theorem pa_cons (ha : PE X e te) (hr : PA X es t) (hs : starEach (e :: es) X.env = (false, eval e X.env) :: starEach es X.env := by rfl) : PA X (e :: es) (tCons te t) := by
  intro pos pins s σ H Q I h
  rw [hs]
  show wpAny _ _ (spliced ((false, eval e X.env) :: backTo pos (starEach es X.env))) _ _ s
  refine Calls.spliced_cons (thn (ha pins s σ H _ I h) fun u s1 hq17 => ?_)
  obtain ⟨x, H1, I1, r1, q1⟩ := hq17
  exact thn (hr pos pins s1 σ H1 _ I1 q1) fun us s2 ⟨xs, H2, I2, r2, q2⟩ => ⟨x :: xs, H2, I2, .cons r1 r2, q2⟩

def tTup (t : TA) : TE := fun σ H Q => t σ H fun xs H1 => xs.length ≤ sizeLine ∧ ∀ p, H1 p = none → Q (.ref p) (upd H1 p (.tup xs))
def tLst (t : TA) : TE := fun σ H Q => t σ H fun xs H1 => xs.length ≤ sizeLine ∧ ∀ p, H1 p = none → Q (.ref p) (upd H1 p (.lst xs))
theorem pe_tup {x1} (h : PA X es t) : PE X (.Tuple es x1 pos) (tTup t) := by
  intro pins s σ H Q I hq
  refine wpAny_Tuple_spliced (thn (h pos pins s σ H _ I hq) fun us s1 ⟨xs, H1, I1, r, z, q⟩ => ⟨by rw [← r.length]; exact z, ?_⟩)
  have hf : H1 s1.heap.objs.size = none := I1.hok.fresh (Nat.le_refl _)
  refine ⟨.ref s1.heap.objs.size, upd H1 s1.heap.objs.size (.tup xs), I1.laid (t' := s1.toks) (fun b u e => Heap.get?_push_of_some _ e) (Nat.le_refl _) ?_, rfl, q _ hf⟩
  exact ⟨z, us, r, ⟨_, Heap.get?_push_size _ rfl, rfl, _, rfl⟩⟩
theorem pe_lst (h : PA X es t) : PE X (.List es pos) (tLst t) := by
  intro pins s σ H Q I hq
  refine wpAny_List_spliced (thn (h pos pins s σ H _ I hq) fun us s1 ⟨xs, H1, I1, r, z, q⟩ => ⟨by rw [← r.length]; exact z, ?_⟩)
  have hf : H1 s1.heap.objs.size = none := I1.hok.fresh (Nat.le_refl _)
  refine ⟨.ref s1.heap.objs.size, upd H1 s1.heap.objs.size (.lst xs), I1.laid (t' := s1.toks) (fun b u e => Heap.get?_push_of_some _ e) (Nat.le_refl _) ?_, rfl, q _ hf⟩
  exact ⟨z, us, 0, r, Heap.get?_push_size _ rfl⟩
end
abbrev Sp := List V → Hp → VK → XK → Prop
abbrev CXT := List Env → Hp → Shared → XK → Value → Shared → Prop

structure Env0 (P : Program) (w : World) (K : PySem.W.Frag) (mg : Str → Option Value) (base : Heap) (A : Around) (outer : List Env) (s : Shared) (H : Hp) : Prop where
  frames : A.frames = some outer
  mod : Mod K mg base
  bs : ∀ b o, base.get? b = some o → s.heap.get? b = some o ∧ H b = none
  bsz : base.objs.size ≤ s.heap.objs.size
  funs : s.heap.FunFrames base outer
  frf : ∀ b ∈ frs outer, H b = none
  hok : HOk P w H s.heap
  bare : AllBare s.gens
def CE (outer : List Env) (P : Program) (w : World) (H : Hp) (s : Shared) (Q : VK) (u : Value) (s' : Shared) : Prop :=
  ∃ v H', s'.os = s.os ∧ AllBare s'.gens ∧ Un (frs outer) [] H H' s.heap s'.heap ∧ HOk P w H' s'.heap ∧ RelV v u ∧ Q v H'
def CR (CX : CXT) (outer : List Env) (P : Program) (w : World) (H : Hp) (s : Shared) (Q : VK) (E : XK) (r : Result) (s' : Shared) : Prop :=
  match r with
  | .ok (.ret u) => CE outer P w H s Q u s'
  | .ok _ => False
  | .error e => CX outer H s E e s'
structure FnOk (P : Program) (w : World) (K : PySem.W.Frag) (mg : Str → Option Value) (base : Heap) (CX : CXT) (k : Nat) (f : Addr) (fd : FuncData) (ps : List Str) (sp : Sp) : Prop where
  len : ∀ vs H Q E, sp vs H Q E → vs.length = ps.length
  run : ∀ (A : Around) (outer : List Env) (s : Shared) (H : Hp) (args : Args) (us : List Value) (vs : List V) (Q : VK) (E : XK), Room k A → Env0 P w K mg base A outer s H → BindsTo s fd args (ps.zip us) → Vals vs us → sp vs H Q E →
    codeAny (model P w) A (.call (.ref f) args) (CR CX outer P w H s Q E) s
theorem FnOk.mono {P : Program} {w : World} {K : PySem.W.Frag} {mg : Str → Option Value} {base : Heap} {CX : CXT} {j k : Nat} {f : Addr} {fd : FuncData} {ps : List Str} {sp : Sp} (F : FnOk P w K mg base CX j f fd ps sp) (h : j ≤ k) :
    FnOk P w K mg base CX k f fd ps sp := ⟨F.len, fun A outer s H args us vs Q E hr => F.run A outer s H args us vs Q E (hr.mono h)⟩
theorem FnOk.imp {P : Program} {w : World} {K : PySem.W.Frag} {mg : Str → Option Value} {base : Heap} {CX : CXT} {k : Nat} {f : Addr} {fd : FuncData} {ps : List Str} {sp sp' : Sp} (F : FnOk P w K mg base CX k f fd ps sp)
    (h : ∀ vs H Q E, sp' vs H Q E → sp vs H Q E) : FnOk P w K mg base CX k f fd ps sp' :=
  ⟨fun vs H Q E q => F.len vs H Q E (h _ _ _ _ q), fun A outer s H args us vs Q E hr he hb hv hs => F.run A outer s H args us vs Q E hr he hb hv (h _ _ _ _ hs)⟩

theorem Env0.make {P : Program} {w : World} {K : PySem.W.Frag} {mg : Str → Option Value} {base : Heap} {A : Around} {outer : List Env} {s : Shared} {H : Hp} (e : Env0 P w K mg base A outer s H) (C : Addr) (us : List Value) (kw : List (Str × Value)) :
    Env0 P w K mg base (A.under (.builtin "type.__call__" ⟨.ref C :: us, kw⟩)) outer s H := ⟨by first | exact e.frames | (simpa [Around.under, Code.envs, Code.isFrame, pushEnvs] using e.frames), e.mod, e.bs, e.bsz, e.funs, e.frf, e.hok, e.bare⟩
theorem Env0.in1 {P : Program} {w : World} {K : PySem.W.Frag} {mg : Str → Option Value} {base : Heap} {A : Around} {outer : List Env} {s : Shared} {H : Hp} (e : Env0 P w K mg base A outer s H) :
    Env0 P w K mg base A.in1 outer s H := ⟨e.frames, e.mod, e.bs, e.bsz, e.funs, e.frf, e.hok, e.bare⟩

section
variable {X : Cx} {pins : List (Addr × Obj)} {σ : St} {H : Hp} {s s' : Shared}
theorem Inv.env0 (I : Inv X pins σ H s) : Env0 X.prog X.w X.K X.mg X.base X.A X.stack s H :=
  ⟨I.ok.frames, I.ok.mod, I.bs, Nat.le_trans I.ok.bsz I.sz, I.stack, I.stkFree, I.hok, I.bare⟩
theorem Inv.after {Q : VK} {u : Value} (I : Inv X pins σ H s) (h : CE X.stack X.prog X.w H s Q u s') : EP X pins σ Q u s' := by
  obtain ⟨v, H', os, bare, un, hok, r, q⟩ := h
  obtain ⟨hh, g, d, t, os'⟩ := s'
  obtain rfl : os' = s.os := os
  exact ⟨v, H', I.call (h' := hh) (g' := g) (d' := d) (t' := t) (ch := []) un hok bare (fun b z => absurd z (by simp)), r, q⟩
end
def tCall (sp : Sp) (dvs : List V) (E : XK) (t : TA) : TE := fun σ H Q => t σ H fun vs H1 => sp (vs ++ dvs) H1 Q E
def tMeth (C : Addr) (m : Str) (sp : Sp) (dvs : List V) (E : XK) (ta : TE) (t : TA) : TE := fun σ H Q => ta σ H fun x H1 => ∃ a dx fs, x = .ref a ∧ H1 a = some (.ins C dx fs) ∧ fs.lookup m = none ∧
  t σ H1 fun vs H2 => sp (x :: (vs ++ dvs)) H2 Q E
def tMake (C : Addr) (sp : Sp) (dvs : List V) (E : XK) (t : TA) : TE := fun σ H Q => t σ H fun vs H1 => ∀ x dx, H1 x = none → H1 dx = none → dx ≠ x →
  sp (.ref x :: (vs ++ dvs)) (upd (upd H1 dx (.own x)) x (.ins C dx [])) (fun v H2 => v = .non ∧ Q (.ref x) H2) E

def Binds (K : PySem.W.Frag) (fd : FuncData) (ps : List Str) (ds : List Value) : Prop :=
  ∀ (s : Shared) (us : List Value), K.In s.heap → (us ++ ds).length = ps.length → BindsTo s fd ⟨us, []⟩ (ps.zip (us ++ ds))
theorem Binds.all {K : PySem.W.Frag} {fd : FuncData} {ps : List Str} (h : ∀ us : List Value, us.length = ps.length → bindArgs fd ⟨us, []⟩ = pure (ps.zip us)) : Binds K fd ps [] := fun s us _ hl => by
  rw [List.append_nil] at hl ⊢
  exact .of_eq (h us hl)

def Passes (CX : CXT) (X : Cx) (E : XK) : Prop := ∀ (pins : List (Addr × Obj)) (σ : St) (H : Hp) (s : Shared) (e : Value) (s' : Shared), Inv X pins σ H s → CX X.stack H s E e s' → X.xe e s'

section
variable {X : Cx} {CX : CXT} {k : Nat} {f C : Addr} {fd : FuncData} {ps : List Str} {sp : Sp} {dvs : List V} {ds : List Value} {E : XK} {x m : Str} {p pos apos : Pos} {e o : Expr} {es : List Expr} {ta : TE} {t : TA}
theorem run_fn {pins : List (Addr × Obj)} {σ : St} {H : Hp} {s : Shared} {Q : VK} {us : List Value} {vs : List V} (F : FnOk X.prog X.w X.K X.mg X.base CX k f fd ps sp) (hr : Room k X.A) (hb : Binds X.K fd ps ds) (hd : Vals dvs ds) (hx : Passes CX X E)
    (I : Inv X pins σ H s) (r : Vals vs us) (h : sp (vs ++ dvs) H Q E) : wpAny (model X.prog X.w) X.A (call (.ref f) us) (EP X pins σ Q) X.xe s := by
  have r2 : Vals (vs ++ dvs) (us ++ ds) := r.append hd
  have hl : (us ++ ds).length = ps.length := by rw [← r2.length]; exact F.len _ _ _ _ h
  refine wpAny_call (codeAny_mono (F.run X.A X.stack s H ⟨us, []⟩ (us ++ ds) (vs ++ dvs) Q E hr I.env0 (hb s us I.kIn hl) r2 h) fun r s' hq => ?_)
  cases r with
  | error e => exact hx pins σ H s e s' I hq
  | ok fl =>
    cases fl with
    | ret u => exact I.after hq
    | next => exact False.elim hq
    | brk => exact False.elim hq
    | cont => exact False.elim hq

theorem pe_call (F : FnOk X.prog X.w X.K X.mg X.base CX k f fd ps sp) (hr : Room k X.A) (hg : Gl X x) (hm : X.mg x = some (.ref f)) (hk : PySem.W.keepIn X.K (.ref f) = true) (hb : Binds X.K fd ps ds) (hd : Vals dvs ds) (hx : Passes CX X E)
    (ha : PA X (e :: es) t) (hdb : (x == ("__debug__" : Str)) = false := by decide) (he : starEach (e :: es) X.env = (false, eval e X.env) :: starEach es X.env := by rfl) (hpl : (backTo pos (starEach es X.env)).any (·.1) = false := by rfl) :
    PE X (.Call (.Name x p) (e :: es) [] pos) (tCall sp dvs E t) := by
  intro pins s σ H Q I h
  refine wpAny_Call_Name_kw (ld_glob I hg hm ?_ hdb)
  refine PySem.W.callWith_K (h₀ := X.base) I.ok.mod.kin hk (thn (ha pos pins s σ H _ I h) fun us s1 ⟨vs, H1, I1, r, q⟩ => ⟨I1.kIn, ?_⟩) he hpl
  exact run_fn F hr hb hd hx I1 r q
theorem pe_meth {pl : Sem Bool} (he : PE X o ta) (c : Cls X.K C) (hm : Meth X.K C m f) (F : FnOk X.prog X.w X.K X.mg X.base CX k f fd ps sp) (hr : Room k X.A) (hb : Binds X.K fd ps ds) (hd : Vals dvs ds) (hx : Passes CX X E) (ha : PA X (e :: es) t)
    (hst : starEach (e :: es) X.env = (false, eval e X.env) :: starEach es X.env := by rfl) (hpl : (backTo pos (starEach es X.env)).any (·.1) = false := by rfl)
    (ht : eval (.Call (.Attribute o m apos) (e :: es) [] pos) X.env = (do
      let ov ← eval o X.env
      standAt apos.atName
      let (f, first) ← holding [ov] (getMethod ov m pl)
      callWith pos f first (backTo pos (starEach (e :: es) X.env)) (backToKw pos (keywordEach [] X.env))) := by rfl) :
    PE X (.Call (.Attribute o m apos) (e :: es) [] pos) (tMeth C m sp dvs E ta t) := by
  intro pins s σ H Q I h
  refine PySem.W.methodCall_KW (pl := pl) (thn (he pins s σ H _ I h) fun u s1 ⟨x, H1, I1, rx, a, dx, fs, ex, ea, l, q⟩ => ?_) ht
  subst ex
  obtain rfl : u = Value.ref a := rx
  refine getmeth_ok I1 ea c hm l ?_
  refine PySem.W.callWith_K (first := [.ref a]) (h₀ := X.base) I.ok.mod.kin hm.kp (thn (ha pos pins s1 σ H1 _ I1 q) fun us s2 ⟨vs, H2, I2, r, q2⟩ => ⟨I2.kIn, ?_⟩) hst hpl
  exact run_fn (us := .ref a :: us) (vs := .ref a :: vs) F hr hb hd hx I2 (.cons rfl r) q2
theorem pe_meth0 {pl : Sem Bool} (he : PE X o ta) (c : Cls X.K C) (hm : Meth X.K C m f) (F : FnOk X.prog X.w X.K X.mg X.base CX k f fd ps sp) (hr : Room k X.A) (hb : Binds X.K fd ps ds) (hd : Vals dvs ds) (hx : Passes CX X E)
    (ht : eval (.Call (.Attribute o m apos) [] [] pos) X.env = (do
      let ov ← eval o X.env
      standAt apos.atName
      let (f, first) ← holding [ov] (getMethod ov m pl)
      callWith pos f first (backTo pos (starEach [] X.env)) (backToKw pos (keywordEach [] X.env))) := by rfl) :
    PE X (.Call (.Attribute o m apos) [] [] pos) (tMeth C m sp dvs E ta tNil) := by
  intro pins s σ H Q I h
  refine PySem.W.methodCall_KW (pl := pl) (thn (he pins s σ H _ I h) fun u s1 ⟨x, H1, I1, rx, a, dx, fs, ex, ea, l, q⟩ => ?_) ht
  subst ex
  obtain rfl : u = Value.ref a := rx
  refine getmeth_ok I1 ea c hm l ?_
  exact PySem.W.callWith_K0 (first := [.ref a]) I1.kIn hm.kp (run_fn (us := [.ref a]) (vs := [.ref a]) F hr hb hd hx I1 (.cons rfl .nil) q)

structure Mk (K : PySem.W.Frag) (C f : Addr) : Prop where
  makes : PySem.W.makesIn K C = true
  init : PySem.W.findIn K (.ref C) "__init__" = some (some (.ref f))
  fn : PySem.W.isFn K (.ref f) = true
  kp : PySem.W.keepIn K (.ref C) = true

theorem run_make {pins : List (Addr × Obj)} {σ : St} {H : Hp} {s : Shared} {Q : VK} {us : List Value} {vs : List V} (M : Mk X.K C f) (F : FnOk X.prog X.w X.K X.mg X.base CX k f fd ps sp) (hr : Room (k + 1) X.A) (hb : Binds X.K fd ps ds) (hd : Vals dvs ds)
    (hx : Passes CX X E) (I : Inv X pins σ H s) (r : Vals vs us)
    (h : ∀ x dx, H x = none → H dx = none → dx ≠ x → sp (.ref x :: (vs ++ dvs)) (upd (upd H dx (.own x)) x (.ins C dx [])) (fun v H2 => v = .non ∧ Q (.ref x) H2) E) :
    wpAny (model X.prog X.w) X.A (call (.ref C) us) (EP X pins σ Q) X.xe s := by
  have hq := h (s.heap.objs.size + 1) s.heap.objs.size (I.hok.fresh (Nat.le_succ _)) (I.hok.fresh (Nat.le_refl _)) (Nat.ne_of_lt (Nat.lt_succ_self _))
  have I2 := Inv.made (C := C) I
  have r2 : Vals (V.ref (s.heap.objs.size + 1) :: (vs ++ dvs)) (Value.ref (s.heap.objs.size + 1) :: (us ++ ds)) := .cons rfl (r.append hd)
  have hl : (Value.ref (s.heap.objs.size + 1) :: us ++ ds).length = ps.length := by
    have e := r2.length
    rw [F.len _ _ _ _ hq] at e
    exact e.symm
  refine wpAny_call (make_map (f := f) I.kIn M.makes M.init (beq_iff_eq.mp M.fn) (codeAny_mono (F.run _ X.stack _ _ ⟨Value.ref (s.heap.objs.size + 1) :: us, []⟩ (Value.ref (s.heap.objs.size + 1) :: (us ++ ds)) _ _ E (hr.make C us [])
    (I2.env0.make C us []) (hb _ (Value.ref (s.heap.objs.size + 1) :: us) I2.kIn hl) r2 hq) fun r s' hq' => ?_))
  cases r with
  | error e => exact hx pins σ _ _ e s' I2 hq'
  | ok fl =>
    cases fl with
    | ret u =>
      obtain ⟨v, H', I3, rv, ev, q3⟩ := I2.after hq'
      subst ev
      exact ⟨rv, ⟨V.ref (s.heap.objs.size + 1), H', I3, rfl, q3⟩⟩
    | next => exact False.elim hq'
    | brk => exact False.elim hq'
    | cont => exact False.elim hq'
theorem pe_make0 (M : Mk X.K C f) (F : FnOk X.prog X.w X.K X.mg X.base CX k f fd ps sp) (hr : Room (k + 1) X.A) (hg : Gl X x) (hm : X.mg x = some (.ref C)) (hb : Binds X.K fd ps ds) (hd : Vals dvs ds) (hx : Passes CX X E)
    (hdb : (x == ("__debug__" : Str)) = false := by decide) : PE X (.Call (.Name x p) [] [] pos) (tMake C sp dvs E tNil) := by
  intro pins s σ H Q I h
  refine wpAny_Call_Name_kw (ld_glob I hg hm ?_ hdb)
  exact PySem.W.callWith_K0 I.kIn M.kp (run_make (us := []) M F hr hb hd hx I .nil h)
end
section
variable {X : Cx} {CX : CXT} {k : Nat} {f C : Addr} {fd : FuncData} {ps ks : List Str} {sp : Sp} {E : XK} {x m : Str} {p pos apos kpos : Pos} {e o : Expr} {es : List Expr} {kws : List Keyword} {te ta : TE} {t tk : TA} {nm : Option Str}
variable {g : List Value → List Value → List Value} {gV : List V → List V → List V}
end
structure FnScope (N P : List Str) (sc : Scope) : Prop where
  kind : sc.kind = .function
  co : sc.isCoroutine = false
  gen : sc.isGenerator = false
  nd : N.Nodup
  pre : N.take P.length = P
  par : ∀ x ∈ P, sc.names.lookup x = some .local ∨ sc.names.lookup x = some .cell
  nofree : ∀ y ∈ sc.names, y.2 ≠ .free

theorem bindL_out {kindOf : Str → Option NameKind} {x : Str} : ∀ {binds : List (Str × Value)} {m : Str → Option Value}, (∀ v, (x, v) ∉ binds) → bindL kindOf binds m x = m x
  | [], _, _ => rfl
  | (n, v) :: r, m, h => by
    unfold bindL
    rw [bindL_out fun w hw => h w (List.mem_cons_of_mem _ hw)]
    split
    · have : x ≠ n := by rintro rfl; exact h v List.mem_cons_self
      simp [this]
    · rfl
theorem bindC_out {kindOf : Str → Option NameKind} {x : Str} : ∀ {binds : List (Str × Value)} {m : Str → Option Value}, (∀ v, (x, v) ∉ binds) → bindC kindOf binds m x = m x
  | [], _, _ => rfl
  | (n, v) :: r, m, h => by
    unfold bindC
    rw [bindC_out fun w hw => h w (List.mem_cons_of_mem _ hw)]
    split
    · rfl
    · have : x ≠ n := by rintro rfl; exact h v List.mem_cons_self
      simp [this]
theorem bindL_get {kindOf : Str → Option NameKind} {x : Str} {v : Value} : ∀ {P : List Str} {vs : List Value} {i : Nat} {m : Str → Option Value}, P.Nodup → P[i]? = some x → vs[i]? = some v → kindOf x = some .local →
    bindL kindOf (P.zip vs) m x = some v
  | [], _, _, _, _, h, _, _ => by simp at h
  | _ :: _, [], _, _, _, _, h, _ => by simp at h
  | p :: P, w :: vs, 0, m, nd, h1, h2, hk => by
    simp at h1 h2; subst h1; subst h2
    show bindL kindOf ((p, w) :: P.zip vs) m p = _
    unfold bindL
    rw [bindL_out fun v hv => (List.nodup_cons.mp nd).1 (List.of_mem_zip hv).1, if_pos hk]
    simp
  | p :: P, w :: vs, i + 1, m, nd, h1, h2, hk => by
    show bindL kindOf ((p, w) :: P.zip vs) m x = _
    unfold bindL
    exact bindL_get (i := i) (List.nodup_cons.mp nd).2 (by simpa using h1) (by simpa using h2) hk
theorem bindC_get {kindOf : Str → Option NameKind} {x : Str} {v : Value} : ∀ {P : List Str} {vs : List Value} {i : Nat} {m : Str → Option Value}, P.Nodup → P[i]? = some x → vs[i]? = some v → kindOf x ≠ some .local →
    bindC kindOf (P.zip vs) m x = some v
  | [], _, _, _, _, h, _, _ => by simp at h
  | _ :: _, [], _, _, _, _, h, _ => by simp at h
  | p :: P, w :: vs, 0, m, nd, h1, h2, hk => by
    simp at h1 h2; subst h1; subst h2
    show bindC kindOf ((p, w) :: P.zip vs) m p = _
    unfold bindC
    rw [bindC_out fun v hv => (List.nodup_cons.mp nd).1 (List.of_mem_zip hv).1, if_neg hk]
    simp
  | p :: P, w :: vs, i + 1, m, nd, h1, h2, hk => by
    show bindC kindOf ((p, w) :: P.zip vs) m x = _
    unfold bindC
    exact bindC_get (i := i) (List.nodup_cons.mp nd).2 (by simpa using h1) (by simpa using h2) hk

def start (N : List Str) (vs : List V) : St := vs.map some ++ List.replicate (N.length - vs.length) none

def cxOf (CX : CXT) (P : Program) (w : World) (K : PySem.W.Frag) (mg : Str → Option Value) (base : Heap) (N : List Str) (qual : Str) (scope : Scope) (f : Addr) (cd : Value) (A : Around) (outer : List Env) (s : Shared) (H : Hp) (E : XK) : Cx where
  prog := P
  w := w
  K := K
  mg := mg
  base := base
  A := A.deeper (envOfC qual scope s.heap.objs.size f cd)
  N := N
  s₀ := s
  H₀ := H
  env := envOfC qual scope s.heap.objs.size f cd
  outer := outer
  stack := envOfC qual scope s.heap.objs.size f cd :: outer
  ex := []
  calm := true
  fn := fun _ => true
  pn := []
  xe := fun e s' => wpAny (model P w) (A.deeper (envOfC qual scope s.heap.objs.size f cd)) (leaving (envOfC qual scope s.heap.objs.size f cd) e) (fun _ s'' => CX outer H s E e s'') (fun e' s'' => CX outer H s E e' s'') s'

theorem cell_has {sc : Scope} {n : Nat} {x : Str} (h : sc.names.lookup x = some .cell) : ∃ c, (cellsFrom n sc.names []).lookup x = some c := by
  have q := PySem.W.cellsFrom_some sc.names n [] (.inl h)
  exact Option.isSome_iff_exists.mp q

theorem inv_start {CX : CXT} {P : Program} {w : World} {K : PySem.W.Frag} {mg : Str → Option Value} {base : Heap} {N ps : List Str} {qual : Str} {scope : Scope} {f : Addr} {cd : Value} {A : Around} {outer : List Env} {s s1 : Shared} {H : Hp} {E : XK} {us : List Value} {vs : List V}
    (S : FnScope N ps scope) (hd : A.handled = none) (e0 : Env0 P w K mg base A outer s H) (hl : vs.length = ps.length) (r : Vals vs us)
    (x : InCallC s s.heap.objs.size (bindL (envOfC qual scope s.heap.objs.size f cd).kindOf (ps.zip us) fun _ => none) (cellsFrom (s.heap.objs.size + 1) scope.names []) (bindC (envOfC qual scope s.heap.objs.size f cd).kindOf (ps.zip us) fun _ => none) s1) :
    Inv (cxOf CX P w K mg base N qual scope f cd A outer s H E) [] (start N vs) H s1 := by
  have hpl : ps.length ≤ N.length := by have := congrArg List.length S.pre; rw [List.length_take] at this; omega
  obtain ⟨h1, tk, rfl, hk⟩ := x.done
  have noA : ∀ b : Addr, b ∉ (cxOf CX P w K mg base N qual scope f cd A outer s H E).ex := fun b z => absurd (show b ∈ ([] : List Addr) from z) (by simp)
  refine ⟨⟨e0.mod, S.kind, rfl, rfl, Nat.le_refl _, fun y z c h1 h2 => ?_, fun y hy => ?_, fun y c _ h => ?_, fun _ => hd, Around.frames_deeper e0.frames, .inr ⟨rfl, rfl⟩, fun b z => absurd z (noA b), e0.bs, e0.bsz, fun b _ _ => noA b, fun b z => absurd z (noA b), e0.funs, e0.frf⟩,
    rfl, e0.bare, Un.kept hk, ⟨_, x.toInCall.ns, fun i y v h1 h2 h3 => ?_⟩, fun y c h => ⟨_, x.cell y c h⟩, e0.hok.fresh (Nat.le_refl _), fun y c h => ?_, fun p hp => absurd (show p ∈ ([] : List (Addr × Obj)) from hp) (by simp), e0.hok.kept hk, ?_⟩
  · exact name_of_addr x.apart (PySem.mem_of_lookup h1) (PySem.mem_of_lookup h2)
  · have hy : scope.names.lookup y = some .cell ∨ scope.names.lookup y = some .free := hy
    rcases hy with hy | hy
    · exact cell_has hy
    · exact absurd rfl (S.nofree _ (PySem.mem_of_lookup hy))
  · exact Nat.le_of_lt (x.above y c (PySem.mem_of_lookup h))
  · have hi : i < vs.length := by
      unfold start at h2
      by_cases hi : i < vs.length
      · exact hi
      · rw [List.getElem?_append_right (by simpa using hi)] at h2
        rw [List.getElem?_replicate] at h2
        split at h2 <;> cases h2
    have ha : vs[i]? = some v := by
      unfold start at h2
      rw [List.getElem?_append_left (by simpa using hi), List.getElem?_map] at h2
      cases e : vs[i]? with
      | none => rw [e] at h2; cases h2
      | some a => rw [e] at h2; cases h2; rfl
    obtain ⟨u, hu, rv⟩ := r.get ha
    have hp : ps[i]? = some y := by
      rw [← S.pre, List.getElem?_take_of_lt (by omega)]; exact h1
    have ndP : ps.Nodup := by rw [← S.pre]; exact S.nd.sublist (List.take_sublist _ _)
    refine ⟨u, rv, ?_⟩
    rcases S.par y (List.mem_of_getElem? hp) with k | k
    · exact .inl ⟨k, bindL_get ndP hp hu k⟩
    · obtain ⟨c, e⟩ := cell_has (n := s.heap.objs.size + 1) k
      refine .inr ⟨.inl k, c, e, ?_⟩
      have q := x.cell y c e
      rw [bindC_get ndP hp hu (by show scope.names.lookup y ≠ _; rw [k]; decide)] at q
      exact q
  · exact e0.hok.fresh (Nat.le_of_lt (x.above y c (PySem.mem_of_lookup h)))
  · unfold start
    show _ = N.length
    rw [List.length_append, List.length_map, List.length_replicate]
    omega

theorem fn_of {CX : CXT} {P : Program} {w : World} {K : PySem.W.Frag} {mg : Str → Option Value} {base : Heap} {k : Nat} {f : Addr} {name qual : Str} {params : Arguments} {body : List Stmt} {scope : Scope} {dV kV doc pm cdv ct oc : Value} {an od : Option Addr}
    {osl : Array (Option Value)} {N ps : List Str} {sp : Sp} (lk : K.lookup f = some ⟨oc, od, .func (PySem.W.fnOf name qual params body scope dV kV doc pm an cdv ct), osl⟩) (hcd : PySem.W.codeIn K cdv qual = true) (S : FnScope N ps scope)
    (len : ∀ vs H Q E, sp vs H Q E → vs.length = ps.length)
    (hbody : ∀ (A : Around) (outer : List Env) (s : Shared) (H : Hp) (vs : List V) (Q : VK) (E : XK), Room k (A.deeper (envOfC qual scope s.heap.objs.size f cdv)) → sp vs H Q E →
      ∃ t, PSs (cxOf CX P w K mg base N qual scope f cdv A outer s H E) body t ∧ t { nx := fun _ H' => Q .non H', rt := Q } (start N vs) H) :
    FnOk P w K mg base CX (k + 1) f (PySem.W.fnOf name qual params body scope dV kV doc pm an cdv ct) ps sp := by
  refine ⟨len, fun A outer s H args us vs Q E hr e0 hb r hsp => ?_⟩
  have hl := len _ _ _ _ hsp
  have KX : K.In s.heap := e0.mod.kin.keeps fun b o e => (e0.bs b o e).1
  have lim : s.heap.NoLimit := e0.mod.nolimit.keeps fun b o e => (e0.bs b o e).1
  have hkind : ∀ y ∈ ps.zip us, scope.names.lookup y.1 = some .local ∨ (scope.names.lookup y.1 = some .cell ∧ ((cellsFrom (s.heap.objs.size + 1) scope.names []).lookup y.1).isSome = true) := fun ⟨n, v⟩ hy => by
    rcases S.par n (List.of_mem_zip hy).1 with q | q
    · exact .inl q
    · exact .inr ⟨q, PySem.W.cellsFrom_some _ _ _ (.inl q)⟩
  refine codeAny_call_function hr.depth (KX _ _ lk) rfl S.co S.gen rfl (PySem.W.codeRec_of KX hcd) (hb _ _ _ _ ?_)
  refine wpAny_newFunctionEnv_cells S.kind hkind fun env he s1 x => ?_
  subst he
  refine ⟨lim.keeps x.toInCall.keep, codeAny_func ?_⟩
  obtain ⟨t, ht, hq⟩ := hbody A outer s H vs Q E (hr.deeper _) hsp
  have I : Inv (cxOf CX P w K mg base N qual scope f cdv A outer s H E) [] (start N vs) H s1 := inv_start S hr.hd e0 hl r x
  refine wpAny_mono (ht [] s1 (start N vs) H _ I hq) (fun fl s' hs => ?_) fun e s' hs => hs
  have fin : ∀ {σ' : St} {H' : Hp} {v : V} {u : Value}, Inv (cxOf CX P w K mg base N qual scope f cdv A outer s H E) [] σ' H' s' → RelV v u → Q v H' → CE outer P w H s Q u s' :=
    fun {σ' H' v u} J rv q => ⟨v, H', J.os, J.bare, J.base, J.hok, rv, q⟩
  cases fl with
  | ret u =>
    obtain ⟨v, σ', H', J, rv, q⟩ := hs
    exact fin J rv q
  | next =>
    obtain ⟨σ', H', J, q⟩ := hs
    exact fin (v := V.non) (u := Value.none) J rfl q
  | brk =>
    obtain ⟨_, _, _, q⟩ := hs
    exact False.elim q
  | cont =>
    obtain ⟨_, _, _, q⟩ := hs
    exact False.elim q
end L2
namespace L2
open PySem PySem.Spec PyProof.Rows
section
variable {X : Cx} {x : Str} {p pos : Pos} {e : Expr} {es : List Expr} {t : TA} {id T : String} {r : List V → Hp → VK → Prop}
def tCB (r : List V → Hp → VK → Prop) (t : TA) : TE := fun σ H Q => t σ H fun vs H1 => r vs H1 Q
theorem pe_callB (hc : CallR X (.builtin id) r) (hg : Gl X x) (hm : X.mg x = none) (hv : bootBuiltins x = some (.builtin id)) (ha : PA X (e :: es) t) (hn : x ≠ "__name__" := by decide) (hdb : (x == ("__debug__" : Str)) = false := by decide)
    (he : starEach (e :: es) X.env = (false, eval e X.env) :: starEach es X.env := by rfl) (hpl : (backTo pos (starEach es X.env)).any (·.1) = false := by rfl) : PE X (.Call (.Name x p) (e :: es) [] pos) (tCB r t) := by
  intro pins s σ H Q I h
  refine wpAny_Call_Name_kw (ld_blt I hg hm hv ?_ hn hdb)
  exact PyProof.Rows.callWith_builtin1 (thn (ha pos pins s σ H _ I h) fun us s1 ⟨vs, H1, I1, r1, q1⟩ => hc pins s1 σ H1 vs us Q I1 r1 q1) he hpl
theorem pe_callTy (hc : CallR X (.type T) r) (hg : Gl X x) (hm : X.mg x = none) (hv : bootBuiltins x = some (.type T)) (ha : PA X (e :: es) t) (hn : x ≠ "__name__" := by decide) (hdb : (x == ("__debug__" : Str)) = false := by decide)
    (he : starEach (e :: es) X.env = (false, eval e X.env) :: starEach es X.env := by rfl) (hpl : (backTo pos (starEach es X.env)).any (·.1) = false := by rfl) : PE X (.Call (.Name x p) (e :: es) [] pos) (tCB r t) := by
  intro pins s σ H Q I h
  refine wpAny_Call_Name_kw (ld_blt I hg hm hv ?_ hn hdb)
  exact PyProof.Rows.callWith_type1 (thn (ha pos pins s σ H _ I h) fun us s1 ⟨vs, H1, I1, r1, q1⟩ => hc pins s1 σ H1 vs us Q I1 r1 q1) he hpl
end
end L2
namespace HT
open PySem PyProof.Rows
section
open PySem.SeqAt
open PySem.AutoSeq1 (wpAny_loadPart')
open PySem.MeetsSeq PySem.MeetsSeq2 PySem.MeetsSeq3
end
section
variable {prog : Program} {w : World} {A : Around} {E : Value → Shared → Prop} {s : Shared}
def sIx (n d : Nat) : Option Int → Nat
  | none => d
  | some v => if v < 0 then (v + (n : Int)).toNat else min v.toNat n
theorem sIx_le (n d : Nat) (hd : d ≤ n) (o : Option Int) : sIx n d o ≤ n := by
  cases o with
  | none => exact hd
  | some v =>
    show (if v < 0 then (v + (n : Int)).toNat else min v.toNat n) ≤ n
    by_cases hv : v < 0
    · rw [if_pos hv]; omega
    · rw [if_neg hv]; exact Nat.min_le_right _ _
theorem clip_eq (v : Int) (n d : Nat) : (if v < 0 then max (v + (n : Int)) 0 else min v (n : Int)) = ((sIx n d (some v) : Nat) : Int) := by
  show (if v < 0 then max (v + (n : Int)) 0 else min v (n : Int)) = (((if v < 0 then (v + (n : Int)).toNat else min v.toNat n) : Nat) : Int)
  by_cases hv : v < 0
  · simp only [if_pos hv]; omega
  · simp only [if_neg hv]; omega
theorem adjust_gen (lo hi : Option Int) (n : Nat) : Builtin.Slice.sliceAdjust lo hi 1 (n : Int) = (((sIx n 0 lo : Nat) : Int), ((sIx n n hi : Nat) : Int)) := by
  have h1 : ¬ ((1 : Int) < 0) := by omega
  unfold Builtin.Slice.sliceAdjust
  simp only [h1, if_false]
  refine Prod.ext ?_ ?_
  · cases lo with
    | none => rfl
    | some v => exact clip_eq v n 0
  · cases hi with
    | none => rfl
    | some v => exact clip_eq v n n
theorem places_gen (i j : Nat) : Builtin.Slice.slicePlaces (i : Int) (j : Int) 1 = j - i := by
  unfold Builtin.Slice.slicePlaces
  have h1 : (1 : Int) > 0 := by omega
  simp only [h1, if_true, Int.ediv_one]
  split <;> omega
theorem slicePart_ {v : Value} {o : Option Int} {Q : Option Int → Shared → Prop} (p : IsPart v o) (h : Q o s) : wpAny (model prog w) A (Builtin.Slice.slicePartIndex v) Q E s := by
  cases p with
  | none => exact slicePart_none h
  | int i t => exact slicePart_int h
theorem sliceApplied_gen {sl : Addr} {vl vu : Value} {lo hi : Option Int} {n : Nat} {Q : Int × Int × Nat → Shared → Prop} (hs : s.heap.IsSliceOf sl vl vu .none) (pl : IsPart vl lo) (pu : IsPart vu hi)
    (h : Q (((sIx n 0 lo : Nat) : Int), 1, sIx n n hi - sIx n 0 lo) s) : wpAny (model prog w) A (Builtin.Slice.sliceApplied (.ref sl) (pure (n : Int))) Q E s := by
  obtain ⟨os, hos, hcs, hds⟩ := id hs
  unfold Builtin.Slice.sliceApplied Builtin.Slice.sliceFields
  refine wpAny_bind (wpAny_bind (wpAny_field hos hds (x := vl) rfl (wpAny_bind (wpAny_field hos hds (x := vu) rfl (wpAny_bind (wpAny_field hos hds (x := .none) rfl (wpAny_pure ?_)))))))
  refine wpAny_bind (slicePart_none ?_)
  show wpAny _ _ (if ((1 : Int) == 0) = true then _ else _) _ _ s
  rw [if_neg (by decide)]
  refine wpAny_bind (slicePart_ pl (wpAny_bind (slicePart_ pu (wpAny_bind (wpAny_pure ?_)))))
  show wpAny _ _ (match Builtin.Slice.sliceAdjust lo hi 1 (n : Int) with | (lo, hi) => pure (lo, (1 : Int), Builtin.Slice.slicePlaces lo hi 1)) _ _ s
  rw [adjust_gen lo hi n]
  show wpAny _ _ (pure (((sIx n 0 lo : Nat) : Int), (1 : Int), Builtin.Slice.slicePlaces ((sIx n 0 lo : Nat) : Int) ((sIx n n hi : Nat) : Int) 1)) _ _ s
  rw [places_gen]
  exact wpAny_pure h
theorem pick_gen (xs : Array Value) (i k : Nat) : ((List.range k).filterMap fun (m : Nat) => xs[((i : Int) + (m : Int) * 1).toNat]?).toArray = ((xs.toList.drop i).take k).toArray := by
  have e : (fun (m : Nat) => xs[((i : Int) + (m : Int) * 1).toNat]?) = fun m => xs[i + m]? := by
    funext m
    have : ((i : Int) + (m : Int) * 1).toNat = i + m := by omega
    rw [this]
  rw [e]
  have := pick_run xs i k
  rw [List.filterMap_map] at this
  have e2 : ((fun x => xs[x]?) ∘ fun x => i + x) = fun m => xs[i + m]? := rfl
  rw [e2] at this
  rw [this]

theorem getItem_tuple_cut {t sl : Addr} {items : Array Value} {vl vu : Value} {lo hi : Option Int} {Q : Value → Shared → Prop} (ht : IsTup s.heap t items) (hs : s.heap.IsSliceOf sl vl vu .none) (pl : IsPart vl lo) (pu : IsPart vu hi)
    (hw : ¬ (sIx items.size 0 lo = 0 ∧ sIx items.size items.size hi = items.size))
    (h : Q (.ref s.heap.objs.size) { s with heap := s.heap.push { cls := .type "tuple", data := .seq ((items.toList.drop (sIx items.size 0 lo)).take (sIx items.size items.size hi - sIx items.size 0 lo)).toArray } })
    (hsz : items.size ≤ sizeLine) : wpAny (model prog w) A (getItem (.ref t) (.ref sl)) Q E s := by
  have htake : sizeOk (.seq ((items.toList.drop (sIx items.size 0 lo)).take (sIx items.size items.size hi - sIx items.size 0 lo)).toArray) := by
    show ((items.toList.drop (sIx items.size 0 lo)).take (sIx items.size items.size hi - sIx items.size 0 lo)).toArray.size ≤ sizeLine
    rw [List.size_toArray, List.length_take, List.length_drop, Array.length_toList]
    omega
  have hj : sIx items.size items.size hi ≤ items.size := sIx_le _ _ (Nat.le_refl _) hi
  obtain ⟨os, hos, hcs, hds⟩ := id hs
  have hTs : s.TypeIs (.ref sl) "slice" := ⟨os, hos, hcs⟩
  unfold getItem
  try with_reducible refine wpAny_holding ?_
  first | refine wpAny_bind (wpAny_pure ?_) | skip
  refine wpAny_bind (wpAny_sequenceKey ht.typeIs (by decide) ?_)
  refine wpAny_bind (wpAny_callSpecial?_slot (name := Str.ofString "__getitem__") ht.typeIs PyProof.Rows.slot_tuple_getitem
    (wpAny_call_entry PyProof.Rows.slot_tuple_getitem ht.typeIs entry_tuple_getitem ?_ (args_tuple_getitem _ _)))
  show wpAny _ _ (Builtin.Tuple.tupleItemsOf (.ref t) >>= _) _ _ s
  refine wpAny_bind (tupleItemsOf_ ht ?_)
  refine wpAny_bind (wpAny_typeOf hTs ?_)
  rw [if_pos (by decide)]
  refine wpAny_bind (sliceApplied_gen hs pl pu ?_)
  have hno : ¬ ((((sIx items.size 0 lo : Nat) : Int) == 0 && (1 : Int) == 1 && (sIx items.size items.size hi - sIx items.size 0 lo) == items.size) = true) := by
    intro q
    rw [Bool.and_eq_true, Bool.and_eq_true] at q
    have q1 : ((sIx items.size 0 lo : Nat) : Int) = 0 := eq_of_beq q.1.1
    have q2 : sIx items.size items.size hi - sIx items.size 0 lo = items.size := eq_of_beq q.2
    exact hw ⟨by omega, by omega⟩
  show wpAny _ _ (if (((sIx items.size 0 lo : Nat) : Int) == 0 && (1 : Int) == 1 && (sIx items.size items.size hi - sIx items.size 0 lo) == items.size) = true then _ else _) _ _ s
  rw [if_neg hno, pick_gen]
  first
    | exact wpAny_bind (m := Builtin.Tuple.tupleExact _) (wpAny_newObj_type (wpAny_pure ⟨_, rfl, wpAny_pure h⟩) htake)
    | exact wpAny_bind (m := Builtin.Tuple.tupleExact _) (wpAny_newObj_type (wpAny_bind (wpAny_pure (wpAny_pure ⟨_, rfl, wpAny_pure h⟩))) htake)
    | exact wpAny_bind (wpAny_bind (m := Builtin.Tuple.tupleExact _) (wpAny_newObj_type (wpAny_pure (wpAny_pure ⟨_, rfl, wpAny_pure h⟩)) htake))
    | exact wpAny_bind (wpAny_bind (m := Builtin.Tuple.tupleExact _) (wpAny_newObj_type (wpAny_pure ⟨_, rfl, wpAny_pure h⟩) htake))
end
end HT
namespace L2
open PySem PySem.Spec PyProof.Rows
abbrev TO := St → Hp → (Option Int → Hp → Prop) → Prop
def PO (X : Cx) (e : Option Expr) (t : TO) : Prop :=
  ∀ (pins : List (Addr × Obj)) (s : Shared) (σ : St) (H : Hp) (Q : Option Int → Hp → Prop), Inv X pins σ H s → t σ H Q →
    wpAny (model X.prog X.w) X.A (evalPart e X.env) (fun u s' => ∃ o H', Inv X pins σ H' s' ∧ IsPart u o ∧ Q o H') X.xe s
def tNoPart : TO := fun _ H Q => Q none H
def tPart (t : TE) : TO := fun σ H Q => t σ H fun x H1 => ∃ i, x = .int i ∧ Q (some i) H1

section
variable {X : Cx} {e : Expr} {te : TE} {lo hi : Option Expr} {tl th : TO} {pos p2 : Pos}
theorem po_none : PO X none tNoPart := by
  intro pins s σ H Q I h
  rw [evalPart_none]
  exact wpAny_pure ⟨none, H, I, .none, h⟩
theorem po_some (h : PE X e te) : PO X (some e) (tPart te) := by
  intro pins s σ H Q I hw
  rw [evalPart_some]
  refine thn (h pins s σ H _ I hw) fun u s1 hq18 => ?_
  obtain ⟨x, H1, I1, r1, q1⟩ := hq18
  obtain ⟨i, rfl, q⟩ := q1
  obtain ⟨t, rfl⟩ := r1
  exact ⟨some i, H1, I1, .int i t, q⟩

def SlR (X : Cx) (r : V → Option Int → Option Int → Hp → VK → Prop) : Prop :=
  ∀ (pins : List (Addr × Obj)) (s : Shared) (σ : St) (H : Hp) (x : V) (v vl vu : Value) (lo hi : Option Int) (sl : Addr) (Q : VK), Inv X pins σ H s → RelV x v → s.heap.IsSliceOf sl vl vu .none → IsPart vl lo → IsPart vu hi → r x lo hi H Q →
    ∃ T id, typeLookup (.type T) "__getitem__" = pure (some (.builtin id)) ∧ s.TypeIs v T ∧ wpAny (model X.prog X.w) X.A (getItem v (.ref sl)) (EP X pins σ Q) X.xe s
theorem SlR.or {r r' : V → Option Int → Option Int → Hp → VK → Prop} (h : SlR X r) (h' : SlR X r') : SlR X (fun x lo hi H Q => r x lo hi H Q ∨ r' x lo hi H Q) := by
  intro pins s σ H x v vl vu lo hi sl Q I rx hs pl pu q
  rcases q with q | q
  · exact h pins s σ H x v vl vu lo hi sl Q I rx hs pl pu q
  · exact h' pins s σ H x v vl vu lo hi sl Q I rx hs pl pu q
def tSl (r : V → Option Int → Option Int → Hp → VK → Prop) (te : TE) (tl th : TO) : TE := fun σ H Q => te σ H fun x H1 => tl σ H1 fun l H2 => th σ H2 fun u H3 => r x l u H3 Q
theorem pe_slice {r : V → Option Int → Option Int → Hp → VK → Prop} (hr : SlR X r) (he : PE X e te) (hl : PO X lo tl) (hu : PO X hi th) : PE X (.Subscript e (.Slice lo hi none p2) pos) (tSl r te tl th) := by
  intro pins s σ H Q I h
  refine Subscript_ (thn (he pins s σ H _ I h) fun v s1 hq19 => ?_)
  obtain ⟨x, H1, I1, r1, q1⟩ := hq19
  refine wpAny_Slice (thn (hl pins s1 σ H1 _ I1 q1) fun vl s2 ⟨l, H2, I2, pl, q2⟩ => thn (hu pins s2 σ H2 _ I2 q2) fun vu s3 hq20 => ?_)
  obtain ⟨u, H3, I3, pu, q3⟩ := hq20
  rw [evalPart_none]
  refine wpAny_pure ?_
  have I4 : Inv X pins σ H3 { s3 with heap := s3.heap.push { cls := .type "slice", data := .fields #[vl, vu, .none] } } := I3.kept (t' := s3.toks) fun b ob q => Heap.get?_push_of_some _ q
  obtain ⟨T, id, hT, ht, hg⟩ := hr pins { s3 with heap := s3.heap.push { cls := .type "slice", data := .fields #[vl, vu, .none] } } σ H3 x v vl vu l u s3.heap.objs.size Q I4 r1 (Heap.IsSliceOf.new ..) pl pu q3
  show wpAny (model X.prog X.w) X.A (subscriptTail e (.Slice lo hi none p2) v (.ref s3.heap.objs.size)) (EP X pins σ Q) X.xe { s3 with heap := s3.heap.push { cls := .type "slice", data := .fields #[vl, vu, .none] } }
  exact tail_any (ops := [.ref s3.heap.objs.size, v]) ht hT hg (by with_unfolding_all rfl)

def cutV (xs : List V) (lo hi : Option Int) : List V := (xs.drop (HT.sIx xs.length 0 lo)).take (HT.sIx xs.length xs.length hi - HT.sIx xs.length 0 lo)
theorem cutV_length (xs : List V) (lo hi : Option Int) : (cutV xs lo hi).length ≤ xs.length := by
  unfold cutV
  rw [List.length_take, List.length_drop]
  omega
def rSlT (K : PySem.W.Frag) : V → Option Int → Option Int → Hp → VK → Prop := fun x lo hi H Q => ∃ a xs, x = .ref a ∧ SqT K H a xs ∧
  ¬ (HT.sIx xs.length 0 lo = 0 ∧ HT.sIx xs.length xs.length hi = xs.length) ∧ ∀ p, H p = none → Q (.ref p) (upd H p (.tup (cutV xs lo hi)))
theorem sl_tup : SlR X (rSlT X.K) := by
  intro pins s σ H x v vl vu lo hi sl Q I rx hs pl pu h
  obtain ⟨a, xs, rfl, hx, hw, q⟩ := h
  cases rx
  obtain ⟨its, r, ht, hz⟩ := I.tuple hx
  have hlen : its.toArray.size = xs.length := by rw [List.size_toArray]; exact r.length.symm
  refine ⟨"tuple", _, PyProof.Rows.slot_tuple_getitem.lookup, ht.typeIs, ?_⟩
  refine HT.getItem_tuple_cut ht hs pl pu (by rw [hlen]; exact hw) ?_ (by rw [hlen]; exact hz)
  rw [hlen]
  refine ⟨.ref s.heap.objs.size, _, I.laid (t' := s.toks) (o := .tup (cutV xs lo hi)) (fun b ob q => Heap.get?_push_of_some _ q) (Nat.le_refl _) ?_, rfl, q _ (I.hok.fresh (Nat.le_refl _))⟩
  exact ⟨Nat.le_trans (cutV_length xs lo hi) hz, _, (r.drop (HT.sIx xs.length 0 lo)).take (HT.sIx xs.length xs.length hi - HT.sIx xs.length 0 lo), IsTup.new _ _⟩

end
end L2
namespace L2
open PySem PySem.Spec PyProof.Rows
def ixN (n : Nat) (i : Int) : Option Nat := if 0 ≤ i then (if i < n then some i.toNat else none) else if -(n : Int) ≤ i then some (i + n).toNat else none
def atI {α : Type} (xs : List α) (i : Int) : Option α := (ixN xs.length i).bind fun j => xs[j]?
theorem ixN_seq {n : Nat} {i : Int} {j : Nat} (h : ixN n i = some j) : seqIndex? i n = some j ∧ j < n ∧ -(n : Int) ≤ i ∧ i < n := by
  unfold ixN at h
  by_cases h0 : 0 ≤ i
  · rw [if_pos h0] at h
    by_cases h1 : i < n
    · rw [if_pos h1] at h
      have e : i.toNat = j := Option.some.inj h
      exact ⟨by rw [seqIndex_of h0 h1, e], by omega, by omega, h1⟩
    · rw [if_neg h1] at h; cases h
  · rw [if_neg h0] at h
    by_cases h1 : -(n : Int) ≤ i
    · rw [if_pos h1] at h
      have e : (i + n).toNat = j := Option.some.inj h
      exact ⟨by rw [seqIndex_neg (by omega) h1, e], by omega, h1, by omega⟩
    · rw [if_neg h1] at h; cases h
theorem atI_get {α : Type} {xs : List α} {i : Int} {v : α} (h : atI xs i = some v) : ∃ j, seqIndex? i xs.length = some j ∧ xs[j]? = some v ∧ j < xs.length ∧ -(xs.length : Int) ≤ i ∧ i < xs.length := by
  unfold atI at h
  cases e : ixN xs.length i with
  | none => rw [e] at h; cases h
  | some j =>
    rw [e] at h
    obtain ⟨h1, h2, h3, h4⟩ := ixN_seq e
    exact ⟨j, h1, h, h2, h3, h4⟩
def PlainIx (b : Expr) : Prop := ∀ o i, subscripted b false o i = operate [o, i] (getItem o i)
def IxR (X : Cx) (r : R2) : Prop :=
  ∀ (value slice : Expr) (pins : List (Addr × Obj)) (s : Shared) (σ : St) (H : Hp) (x y : V) (v u : Value) (Q : VK), Inv X pins σ H s → RelV x v → RelV y u → r x y H Q →
    subscripted slice false v u = operate [v, u] (getItem v u) → wpAny (model X.prog X.w) X.A (subscriptTail value slice v u) (EP X pins σ Q) X.xe s
def MtR (X : Cx) (id : String) (r : V → List V → Hp → VK → Prop) : Prop :=
  ∀ (pins : List (Addr × Obj)) (s : Shared) (σ : St) (H : Hp) (x : V) (xs : List V) (v : Value) (us : List Value) (Q : VK), Inv X pins σ H s → RelV x v → Vals xs us → r x xs H Q →
    wpAny (model X.prog X.w) X.A (call (.builtin id) (v :: us)) (EP X pins σ Q) X.xe s
section
variable {X : Cx} {a b : Expr} {ta tb : TE} {pos : Pos}
theorem IxR.or {r r' : R2} (h : IxR X r) (h' : IxR X r') : IxR X (fun x y H Q => r x y H Q ∨ r' x y H Q) := by
  intro value slice pins s σ H x y v u Q I rx ry q hs
  rcases q with q | q
  · exact h value slice pins s σ H x y v u Q I rx ry q hs
  · exact h' value slice pins s σ H x y v u Q I rx ry q hs
theorem MtR.or {id : String} {r r' : V → List V → Hp → VK → Prop} (h : MtR X id r) (h' : MtR X id r') : MtR X id (fun x xs H Q => r x xs H Q ∨ r' x xs H Q) := by
  intro pins s σ H x xs v us Q I rx rs q
  rcases q with q | q
  · exact h pins s σ H x xs v us Q I rx rs q
  · exact h' pins s σ H x xs v us Q I rx rs q
theorem pe_ix {r : R2} (hr : IxR X r) (ha : PE X a ta) (hb : PE X b tb) (hs : PlainIx b) : PE X (.Subscript a b pos) (tOp r ta tb) := by
  intro pins s σ H Q I h
  exact Subscript_ (binT ha hb I h fun v u s2 x y H2 I2 rx ry q => hr a b pins s2 σ H2 x y v u Q I2 rx ry q (hs _ _))

def rIxL (K : PySem.W.Frag) : R2 := fun x y H Q => ∃ p xs i v, x = .ref p ∧ y = .int i ∧ SqL K H p xs ∧ atI xs i = some v ∧ Q v H
def rIxT (K : PySem.W.Frag) : R2 := fun x y H Q => ∃ p xs i v, x = .ref p ∧ y = .int i ∧ SqT K H p xs ∧ atI xs i = some v ∧ Q v H
def rIxS : R2 := fun x y H Q => ∃ z i c, x = .str z ∧ y = .int i ∧ z.length ≤ sizeLine ∧ atI z.cps.toList i = some c ∧ Q (.str ⟨#[c]⟩) H
theorem ix_list : IxR X (rIxL X.K) := by
  intro value slice pins s σ H x y v u Q I rx ry h hs
  obtain ⟨p, xs, i, z, rfl, rfl, hq, he, q⟩ := h
  cases rx
  obtain ⟨t, rfl⟩ := ry
  obtain ⟨its, r, pl, hz⟩ := I.list hq
  obtain ⟨j, h1, h2, h3, h4, h5⟩ := atI_get he
  obtain ⟨w, ew, rw'⟩ := r.get h2
  have hl := r.length
  have hn := line63
  have fin : EP X pins σ Q w s := ⟨z, H, I, rw', q⟩
  by_cases h0 : 0 ≤ i
  · have hj : i.toNat = j := by
      rw [seqIndex_of h0 h5] at h1
      exact Option.some.inj h1
    exact item_listR pl.isList h0 (by omega) (by rw [hj]; simpa using ew) fin hs
  · have hj : (i + (its.toArray.size : Int)).toNat = j := by
      rw [seqIndex_neg (by omega) h4] at h1
      rw [List.size_toArray, ← hl]
      exact Option.some.inj h1
    exact subscriptTail_builtinR (x := w) pl.isList.typeIs slot_list_getitem.lookup
      (wpAny_getItem_list_neg (Q := fun r s' => r = w ∧ EP X pins σ Q r s') pl.isList (by omega) (by rw [List.size_toArray] <;> omega) (by omega) (by rw [hj]; simpa using ew) ⟨rfl, fin⟩) hs
theorem ix_tup : IxR X (rIxT X.K) := by
  intro value slice pins s σ H x y v u Q I rx ry h hs
  obtain ⟨p, xs, i, z, rfl, rfl, hq, he, q⟩ := h
  cases rx
  obtain ⟨t, rfl⟩ := ry
  obtain ⟨its, r, pl, hz⟩ := I.tuple hq
  obtain ⟨j, h1, h2, h3, h4, h5⟩ := atI_get he
  obtain ⟨w, ew, rw'⟩ := r.get h2
  have hl := r.length
  have hn := line63
  have fin : EP X pins σ Q w s := ⟨z, H, I, rw', q⟩
  exact subscriptTail_builtinR (x := w) pl.typeIs slot_tuple_getitem.lookup
    (getItem_tuple (j := j) (Q := fun r s' => r = w ∧ EP X pins σ Q r s') pl (by omega) (by omega) (by rw [List.size_toArray, ← hl]; exact h1) (by simpa using ew) ⟨rfl, fin⟩) hs
theorem ix_str : IxR X rIxS := by
  intro value slice pins s σ H x y v u Q I rx ry h hs
  obtain ⟨z, i, c, rfl, rfl, hz, he, q⟩ := h
  obtain ⟨t, rfl⟩ := rx
  obtain ⟨t', rfl⟩ := ry
  obtain ⟨j, h1, h2, h3, h4, h5⟩ := atI_get he
  have hl : z.cps.toList.length = z.length := by simp [Str.length]
  rw [hl] at h1 h4 h5
  have hn := line63
  exact tail_any (typeIs_str s z t) slot_str_getitem.lookup (getItem_str (c := c) (by
    have e1 : decide (i < -(2 ^ 63 : Int)) = false := decide_eq_false (by omega)
    have e2 : decide (i ≥ 2 ^ 63) = false := decide_eq_false (by omega)
    rw [e1, e2, Bool.or_false]) (by rw [h1]; simpa using h2) ⟨.str ⟨#[c]⟩, H, I.tok _, ⟨_, rfl⟩, q⟩) hs
def rIx (K : PySem.W.Frag) : R2 := fun x y H Q => rIxL K x y H Q ∨ rIxT K x y H Q ∨ rIxS x y H Q
theorem ix_seq : IxR X (rIx X.K) := ix_list.or (ix_tup.or ix_str)

theorem mapSeq_set (its : List Value) (n j : Nat) (u : Value) : Obj.mapSeq (·.setIfInBounds j u) { cls := .type "list", data := .seq its.toArray n } = { cls := .type "list", data := .seq (its.set j u).toArray n } := by
  simp [Obj.mapSeq]
theorem Inv.lst {pins : List (Addr × Obj)} {σ : St} {H : Hp} {s : Shared} {p : Addr} {xs : List V} (I : Inv X pins σ H s) (h : H p = some (.lst xs)) :
    ∃ (its : List Value) (n : Nat), Vals xs its ∧ s.heap.get? p = some { cls := .type "list", data := .seq its.toArray n } ∧ xs.length ≤ sizeLine := by
  obtain ⟨z, its, n, r, e⟩ := I.hok p _ h
  exact ⟨its, n, r, e, z⟩
theorem Inv.lstUpd {pins : List (Addr × Obj)} {σ : St} {H : Hp} {s : Shared} {p : Addr} {xs ys : List V} {its its' : List Value} {n n' : Nat} {f : Obj → Obj} (I : Inv X pins σ H s) (h : H p = some (.lst xs))
    (ho : s.heap.get? p = some { cls := .type "list", data := .seq its.toArray n }) (hf : f { cls := .type "list", data := .seq its.toArray n } = { cls := .type "list", data := .seq its'.toArray n' }) (r : Vals ys its') (hz : ys.length ≤ sizeLine) (t : Nat) :
    Inv X pins σ (upd H p (.lst ys)) { s with heap := s.heap.update p f, toks := t } := by
  have e : (s.heap.update p f).get? p = some { cls := .type "list", data := .seq its'.toArray n' } := by
    rw [Heap.get?_update_self f ho (by rw [hf] <;> rfl), hf]
  refine I.write (x := p) (e := p) (by rw [h]; trivial) (.inl rfl) (fun b u hb q => (Heap.get?_update_other _ _ (Ne.symm hb)).trans q) ⟨_, e⟩ ?_
  exact ⟨hz, its', n', r, e⟩
def rSetL : V → V → V → Hp → (Hp → Prop) → Prop := fun o i v H Q => ∃ p xs k j, o = .ref p ∧ i = .int k ∧ H p = some (.lst xs) ∧ ixN xs.length k = some j ∧ Q (upd H p (.lst (xs.set j v)))
theorem set_list : PSet X rSetL := by
  intro pins s σ H o i v ov iv u Q I ro ri rv h
  obtain ⟨p, xs, k, j, rfl, rfl, hp, hj, q⟩ := h
  cases ro
  obtain ⟨t, rfl⟩ := ri
  obtain ⟨its, n, r, ho, hz⟩ := I.lst hp
  obtain ⟨h1, h2, h3, h4⟩ := ixN_seq hj
  have hl := r.length
  have hn := line63
  have I' : Inv X pins σ (upd H p (.lst (xs.set j v))) { s with heap := s.heap.update p (Obj.mapSeq (·.setIfInBounds j u)) } :=
    I.lstUpd hp ho (mapSeq_set its n j u) (r.set rv j) (by rw [List.length_set]; exact hz) s.toks
  by_cases h0 : 0 ≤ k
  · have hk : k.toNat = j := by
      rw [seqIndex_of h0 h4] at h1
      exact Option.some.inj h1
    exact PySem.W.ki_setAt ho h0 (by omega) (by rw [List.size_toArray, ← hl]; exact h4) (by rw [hk]; exact ⟨_, I', q⟩)
  · have hk : (k + (its.toArray.size : Int)).toNat = j := by
      rw [seqIndex_neg (by omega) h3] at h1
      rw [List.size_toArray, ← hl]
      exact Option.some.inj h1
    exact PySem.W.ki_setBack ho (by omega) (by rw [List.size_toArray, ← hl]; exact h3) (by omega) (by rw [hk]; exact ⟨_, I', q⟩)

theorem slice_bounds (lo hi : Option Int) (n : Nat) : (sliceBounds lo hi none n).1 = ((HT.sIx n 0 lo : Nat) : Int) ∧ (sliceBounds lo hi none n).2.1 = ((HT.sIx n n hi : Nat) : Int) ∧ (sliceBounds lo hi none n).2.2 = 1 := by
  refine ⟨?_, ?_, rfl⟩
  · cases lo with
    | none => simp [sliceBounds, HT.sIx]
    | some i =>
      simp only [sliceBounds, HT.sIx, Option.getD_none, show (1 : Int) > 0 by decide, if_true]
      by_cases h : i < 0
      · simp only [h, if_true] <;> omega
      · simp only [h, if_false] <;> omega
  · cases hi with
    | none => simp [sliceBounds, HT.sIx]
    | some i =>
      simp only [sliceBounds, HT.sIx, Option.getD_none, show (1 : Int) > 0 by decide, if_true]
      by_cases h : i < 0
      · simp only [h, if_true] <;> omega
      · simp only [h, if_false] <;> omega
theorem slicePick_cut (its : List Value) (lo hi : Option Int) : slicePick its.toArray lo hi none = ((its.drop (HT.sIx its.length 0 lo)).take (HT.sIx its.length its.length hi - HT.sIx its.length 0 lo)).toArray := by
  obtain ⟨h1, h2, h3⟩ := slice_bounds lo hi its.toArray.size
  unfold slicePick
  rw [h1, h2, h3]
  simp only [sliceRange_one, pick_run, List.size_toArray] <;> rfl
def rSlL (K : PySem.W.Frag) : V → Option Int → Option Int → Hp → VK → Prop := fun x lo hi H Q => ∃ a xs, x = .ref a ∧ SqL K H a xs ∧ ∀ p, H p = none → Q (.ref p) (upd H p (.lst (cutV xs lo hi)))
theorem sl_list : SlR X (rSlL X.K) := by
  intro pins s σ H x v vl vu lo hi sl Q I rx hs pl pu h
  obtain ⟨a, xs, rfl, hx, q⟩ := h
  cases rx
  obtain ⟨its, r, ht, hz⟩ := I.list hx
  have hlen := r.length
  refine ⟨"list", _, slot_list_getitem.lookup, ht.isList.typeIs, ?_⟩
  refine wpAny_getItem_list_slice ht.isList hs pl pu .none (by simp) ?_ (by rw [List.size_toArray] <;> omega)
  rw [slicePick_cut, ← hlen]
  refine ⟨.ref s.heap.objs.size, _, I.laid (t' := s.toks) (o := .lst (cutV xs lo hi)) (fun b ob q => Heap.get?_push_of_some _ q) (Nat.le_refl _) ?_, rfl, q _ (I.hok.fresh (Nat.le_refl _))⟩
  exact ⟨Nat.le_trans (cutV_length xs lo hi) hz, _, 0, (r.drop (HT.sIx xs.length 0 lo)).take (HT.sIx xs.length xs.length hi - HT.sIx xs.length 0 lo), Heap.get?_push_size _ rfl⟩

def flatV : V → Bool
  | .non => true
  | .bl _ => true
  | .int _ => true
  | .str _ => true
  | _ => false
def eqV : V → V → Bool
  | .non, .non => true
  | .bl a, .bl b => a == b
  | .bl a, .int b => (if a then 1 else 0) == b
  | .int a, .bl b => a == (if b then 1 else 0)
  | .int a, .int b => a == b
  | .str a, .str b => a == b
  | _, _ => false
theorem eqAt_V {A : Around} {s : Shared} {y x : V} {u v : Value} (ry : RelV y u) (rx : RelV x v) (fy : flatV y = true) (fx : flatV x = true) : SeqAt.EqAt A s u v (eqV y x) := by
  cases y with
  | non =>
    cases ry
    cases x with
    | non => cases rx; exact SeqAt.EqAt.same _
    | bl b => cases rx; exact SeqAt.EqAt.none_bool b
    | int b => obtain ⟨t, rfl⟩ := rx; exact SeqAt.EqAt.none_int b t
    | str b => obtain ⟨t, rfl⟩ := rx; exact SeqAt.EqAt.none_str b t
    | _ => exact absurd (show false = true from fx) Bool.false_ne_true
  | bl a =>
    cases ry
    cases x with
    | non => cases rx; exact SeqAt.EqAt.bool_none a
    | bl b => cases rx; exact SeqAt.EqAt.bool_bool a b
    | int b => obtain ⟨t, rfl⟩ := rx; exact SeqAt.EqAt.bool_int a b t
    | str b => obtain ⟨t, rfl⟩ := rx; exact SeqAt.EqAt.bool_str a b t
    | _ => exact absurd (show false = true from fx) Bool.false_ne_true
  | int a =>
    obtain ⟨t', rfl⟩ := ry
    cases x with
    | non => cases rx; exact SeqAt.EqAt.int_none a t'
    | bl b => cases rx; exact SeqAt.EqAt.int_bool a t' b
    | int b => obtain ⟨t, rfl⟩ := rx; exact SeqAt.EqAt.int_int a t' b t
    | str b => obtain ⟨t, rfl⟩ := rx; exact SeqAt.EqAt.int_str a t' b t
    | _ => exact absurd (show false = true from fx) Bool.false_ne_true
  | str a =>
    obtain ⟨t', rfl⟩ := ry
    cases x with
    | non => cases rx; exact SeqAt.EqAt.str_none a t'
    | bl b => cases rx; exact SeqAt.EqAt.str_bool a t' b
    | int b => obtain ⟨t, rfl⟩ := rx; exact SeqAt.EqAt.str_int a t' b t
    | str b => obtain ⟨t, rfl⟩ := rx; exact SeqAt.EqAt.str_str a t' b t
    | _ => exact absurd (show false = true from fx) Bool.false_ne_true
  | _ => exact absurd (show false = true from fy) Bool.false_ne_true
def eqU (x : V) (u : Value) : Bool := match u with
  | .none => eqV .non x
  | .bool b => eqV (.bl b) x
  | .int i _ => eqV (.int i) x
  | .str z _ => eqV (.str z) x
  | _ => false
theorem eqU_of {x y : V} {u : Value} (r : RelV y u) (f : flatV y = true) : eqU x u = eqV y x := by
  cases y with
  | non => cases r; rfl
  | bl b => cases r; rfl
  | int i => obtain ⟨t, rfl⟩ := r; rfl
  | str z => obtain ⟨t, rfl⟩ := r; rfl
  | _ => exact absurd (show false = true from f) Bool.false_ne_true
theorem any_eqU {x : V} : ∀ {xs : List V} {us : List Value}, Vals xs us → xs.all flatV = true → us.any (eqU x) = xs.any fun y => eqV y x
  | _, _, .nil, _ => rfl
  | y :: xs, u :: us, .cons r t, f => by
    rw [List.all_cons, Bool.and_eq_true] at f
    rw [List.any_cons, List.any_cons, eqU_of r f.1, any_eqU t f.2]
theorem mem_eqAt {A : Around} {s : Shared} {x : V} {v : Value} (rx : RelV x v) (fx : flatV x = true) : ∀ {xs : List V} {us : List Value}, Vals xs us → xs.all flatV = true → ∀ u ∈ us, SeqAt.EqAt A s u v (eqU x u)
  | _, _, .nil, _ => fun u hu => by cases hu
  | y :: xs, u :: us, .cons r t, f => fun u' hu => by
    rw [List.all_cons, Bool.and_eq_true] at f
    rcases List.mem_cons.mp hu with rfl | hu
    · rw [eqU_of r f.1]; exact eqAt_V r rx f.1 fx
    · exact mem_eqAt rx fx t f.2 u' hu
def inV (x : V) (xs : List V) : Bool := xs.any fun y => eqV y x
def rIn (K : PySem.W.Frag) (neg : Bool) : R2 := fun x y H Q => ∃ p xs, y = .ref p ∧ (SqL K H p xs ∨ SqT K H p xs) ∧ flatV x = true ∧ xs.all flatV = true ∧ Q (.bl (if neg then !inV x xs else inV x xs)) H
theorem op_notIn_seq : OpR X (compareOp .NotIn) (rIn X.K true) := by
  intro pins s σ H x y v u Q I rx ry h
  obtain ⟨p, xs, rfl, hq, fx, fs, q⟩ := h
  cases ry
  rcases hq with hq | hq
  · obtain ⟨its, r, pl, hz⟩ := I.list hq
    refine SeqAt.notIn_listAt (eqU x) pl.isList (fun w hw => mem_eqAt rx fx r fs w (by simpa using hw)) ⟨.bl _, H, I, rfl, ?_⟩
    rw [show its.toArray.any (eqU x) = its.any (eqU x) by simp, any_eqU r fs]
    exact q
  · obtain ⟨its, r, pl, hz⟩ := I.tuple hq
    refine SeqAt.notIn_tupleAt (eqU x) pl (fun w hw => mem_eqAt rx fx r fs w (by simpa using hw)) ⟨.bl _, H, I, rfl, ?_⟩
    rw [show its.toArray.any (eqU x) = its.any (eqU x) by simp, any_eqU r fs]
    exact q
theorem CallR.or {f : Value} {r r' : List V → Hp → VK → Prop} (h : CallR X f r) (h' : CallR X f r') : CallR X f (fun xs H Q => r xs H Q ∨ r' xs H Q) := by
  intro pins s σ H xs us Q I rs q
  rcases q with q | q
  · exact h pins s σ H xs us Q I rs q
  · exact h' pins s σ H xs us Q I rs q
def tyV (K : PySem.W.Frag) (T : String) (x : V) (H : Hp) : Prop := match x with
  | .str _ => T = "str"
  | .int _ => T = "int"
  | .ref p => (T = "list" ∧ ∃ xs, SqL K H p xs) ∨ (T = "tuple" ∧ ∃ o, K.lookup p = some o ∧ o.cls = .type "tuple" ∧ o.dict = none) ∨
      (T = "dict" ∧ ((∃ kvs, H p = some (.dK kvs)) ∨ ∃ kvs, H p = some (.dT kvs))) ∨ (T = "set" ∧ ∃ S n, H p = some (.set S n))
  | _ => False
theorem tyV_is {pins : List (Addr × Obj)} {σ : St} {H : Hp} {s : Shared} {T : String} {x : V} {v : Value} (I : Inv X pins σ H s) (r : RelV x v) (ty : tyV X.K T x H) :
    s.TypeIs v T ∧ ∀ a, v = .ref a → ∃ ob, s.heap.get? a = some ob ∧ ob.dict = none := by
  cases x with
  | str z =>
    obtain ⟨t, rfl⟩ := r
    cases (show T = "str" from ty)
    exact ⟨typeIs_str s z t, fun _ e => nomatch e⟩
  | int i =>
    obtain ⟨t, rfl⟩ := r
    cases (show T = "int" from ty)
    exact ⟨typeIs_int s i t, fun _ e => nomatch e⟩
  | ref p =>
    cases r
    rcases ty with ⟨rfl, xs, hq⟩ | ⟨rfl, o, hk, hc, hd⟩ | ⟨rfl, hk⟩ | ⟨rfl, S, n, hk⟩
    · obtain ⟨its, _, pl, _⟩ := I.list hq
      refine ⟨pl.isList.typeIs, fun a e => ?_⟩
      cases e
      obtain ⟨o, n, e, c, hd, _⟩ := pl
      exact ⟨o, e, hd⟩
    · refine ⟨⟨o, I.kIn p o hk, hc⟩, fun a e => ?_⟩
      cases e
      exact ⟨o, I.kIn _ o hk, hd⟩
    · have z : ∃ o, s.heap.get? p = some o ∧ o.ExactDict := by
        rcases hk with ⟨kvs, hk⟩ | ⟨kvs, hk⟩
        · obtain ⟨_, _, _, _, o, _, _, e, ex, _⟩ := I.hok p _ hk
          exact ⟨o, e, ex⟩
        · obtain ⟨_, _, _, _, o, _, _, e, ex, _⟩ := I.hok p _ hk
          exact ⟨o, e, ex⟩
      obtain ⟨o, e, ex⟩ := z
      refine ⟨⟨o, e, ex.1⟩, fun a e2 => ?_⟩
      cases e2
      exact ⟨o, e, ex.2.1⟩
    · obtain ⟨o, _, _, _, e, ex, _⟩ := I.hok p _ hk
      refine ⟨⟨o, e, ex.1⟩, fun a e2 => ?_⟩
      cases e2
      exact ⟨o, e, ex.2.1⟩
  | _ => exact False.elim ty
def tBM (K : PySem.W.Frag) (T : String) (r : V → List V → Hp → VK → Prop) (to : TE) (t : TA) : TE := fun σ H Q => to σ H fun x H1 => tyV K T x H1 ∧ t σ H1 fun xs H2 => r x xs H2 Q
variable {o e : Expr} {es : List Expr} {to : TE} {t : TA} {name : Str} {apos cpos : Pos} {T id : String} {r : V → List V → Hp → VK → Prop}
theorem pe_bm (pa : PlainAttrs T) (slot : Slot T name id) (hty : typeOf (.builtin id) = pure (.type "method_descriptor")) (hm : MtR X id r) (ho : PE X o to) (ha : PA X (e :: es) t)
    (hbase : attributeBase o name X.env (eval o X.env) = eval o X.env := by rfl)
    (hfew : ((backTo cpos (starEach (e :: es) X.env)).all (fun x => !x.1) && (backToKw cpos (keywordEach [] X.env)).all (fun x => x.1.isSome)
      && decide ((e :: es).length + ([] : List Keyword).length + (if ([] : List Keyword).isEmpty then 0 else 1) < 30)) = true := by rfl)
    (hline : (apos.endLine == cpos.line) = true := by rfl) (hs : starEach (e :: es) X.env = (false, eval e X.env) :: starEach es X.env := by rfl) (hplain : (backTo cpos (starEach es X.env)).any (·.1) = false := by rfl) :
    PE X (.Call (.Attribute o name apos) (e :: es) [] cpos) (tBM X.K T r to t) := by
  intro pins s σ H Q I h
  refine wpAny_Call_method_late hbase hfew hline rfl (thn (ho pins s σ H _ I h) fun v s1 hq21 => ?_)
  obtain ⟨x, H1, I1, r1, ty, q1⟩ := hq21
  obtain ⟨h1, h2⟩ := tyV_is I1 r1 ty
  refine ⟨T, id, pa, slot, hty, h1, h2, ?_⟩
  have hA := ha cpos pins s1 σ H1 _ I1 q1
  rw [hs] at hA ⊢
  refine Calls.callWith_builtin (by show (false || (backTo cpos (starEach es X.env)).any (·.1)) = false; rw [hplain] <;> rfl) (Calls.evalArgs_plain ?_)
  exact thn hA fun us s2 ⟨vs, H2, I2, r2, q2⟩ => hm pins s2 σ H2 x vs v us Q I2 r1 r2 q2
end
end L2
namespace L2
open PySem PySem.Spec PyProof.Rows
def MtM (X : Cx) (id : String) (r : V → List V → Hp → VK → Prop) : Prop :=
  ∀ (pins : List (Addr × Obj)) (s : Shared) (σ : St) (H : Hp) (x : V) (xs : List V) (v : Value) (us : List Value) (Q : VK), Inv X pins σ H s → RelV x v → Vals xs us → r x xs H Q →
    wpAny (model X.prog X.w) X.A (call (.builtin id) (v :: us)) (EP X pins σ Q) X.xe s

theorem Vals.one : ∀ {x : V} {us : List Value}, Vals [x] us → ∃ u, us = [u] ∧ RelV x u
  | _, _, .cons r .nil => ⟨_, rfl, r⟩
theorem Vals.two : ∀ {x y : V} {us : List Value}, Vals [x, y] us → ∃ u v, us = [u, v] ∧ RelV x u ∧ RelV y v
  | _, _, _, .cons r (.cons q .nil) => ⟨_, _, rfl, r, q⟩
theorem Vals.zero : ∀ {us : List Value}, Vals [] us → us = []
  | _, .nil => rfl
section
variable {X : Cx} {pins : List (Addr × Obj)} {σ : St} {H : Hp} {s : Shared} {l b : Addr} {xs ys zs : List V}
theorem Inv.lset {its its' : List Value} {n : Nat} {f : Array Value → Array Value} {t' : Nat} (I : Inv X pins σ H s) (hH : H l = some (.lst xs))
    (e : s.heap.get? l = some { cls := .type "list", data := .seq its.toArray n }) (hf : f its.toArray = its'.toArray) (hv : Vals ys its') (hz : ys.length ≤ sizeLine) :
    Inv X pins σ (upd H l (.lst ys)) { s with heap := s.heap.update l (Obj.mapSeq f), toks := t' } := by
  have q := PySem.IsL.update e f
  rw [hf] at q
  refine I.write (x := l) (e := l) (by rw [hH]; exact trivial) (.inl rfl) (fun b' u hb hu => (Heap.get?_update_other s.heap (Obj.mapSeq f) (Ne.symm hb)).trans hu) ⟨_, q⟩ ?_
  exact ⟨hz, its', _, hv, q⟩
theorem Inv.fresh (I : Inv X pins σ H s) : H s.heap.objs.size = none := I.hok.fresh (Nat.le_refl _)
theorem Inv.lstM (I : Inv X pins σ H s) (hH : H l = some (.lst xs)) : xs.length ≤ sizeLine ∧ ∃ (its : List Value) (n : Nat), Vals xs its ∧ xs.length = its.length ∧ s.heap.get? l = some { cls := .type "list", data := .seq its.toArray n } := by
  obtain ⟨z, its, n, r, e⟩ := I.hok l _ hH
  exact ⟨z, its, n, r, r.length, e⟩

end
section
variable {X : Cx}
def rAppend : V → List V → Hp → VK → Prop := fun x vs H Q => ∃ l xs y, x = .ref l ∧ vs = [y] ∧ H l = some (.lst xs) ∧ xs.length < sizeLine ∧ Q .non (upd H l (.lst (xs ++ [y])))
theorem mt_append : MtM X "list.append" rAppend := by
  intro pins s σ H x vs v us Q I rx rv h
  obtain ⟨l, xs, y, rfl, rfl, hH, hz, q⟩ := h
  cases rx
  obtain ⟨u, rfl, ru⟩ := rv.one
  obtain ⟨z, its, n, r, hl, e⟩ := I.lstM hH
  refine call_meets F.slot_list_append ⟨_, e, rfl⟩ F.entry_list_append (F.args_list_append_2 _ _) (PySem.list_append l its.toArray n u (by rw [List.size_toArray]; omega)) ⟨e, ?_⟩
  refine ⟨.non, _, I.lset (its' := its ++ [u]) hH e (by simp) (r.append (.cons ru .nil)) ?_, rfl, q⟩
  rw [List.length_append, List.length_singleton]
  omega

end
section
variable {prog : Program} {w : World} {A : Around} {E : Value → Shared → Prop} {s : Shared}
end
section
variable {X : Cx}
end
end L2
namespace Att
open PySem PySem.W PySem.Calls PyProof.Rows
theorem ints_of_wellAll {P : Params} {h : Heap} : ∀ (ns : List Int) (vs : List Value), WellAll P h vs (ns.map WData.int) → IntsAre vs ns := by
  intro ns
  induction ns with
  | nil =>
    intro vs w
    rw [List.map_nil] at w
    cases w
    exact .nil
  | cons n ns ih =>
    intro vs w
    rw [List.map_cons] at w
    cases w with
    | cons a b =>
      cases a
      exact .cons _ _ (ih _ b)

theorem script_of {l : OpenLaw} {n : Nat} (hn : l.most = some n) {P : Params} {h : Heap} {args : List WData} {vals : List Value}
    (hpre : l.row.toRowW.claim.pre args = true) (hwl : WellAll P h vals args) :
    ∃ a vs ns, vals = [Value.ref a] ∧ args = [WData.list (ns.map WData.int)] ∧ h.get? a = some { cls := .type "list", data := .seq vs.toArray } ∧ IntsAre vs ns ∧ ns.length ≤ n := by
  have hsh : WShape.hasAll [] args [.list .int] = true := (pre_splitW hpre).1
  have hc : l.pre.holds [] { args := args } = true := (pre_splitW hpre).2
  obtain ⟨d, r, rfl, h1, h2⟩ := hasAllW_cons hsh
  obtain rfl := hasAllW_nil h2
  obtain ⟨xs, rfl, h3⟩ := hasW_list h1
  obtain ⟨ns, rfl⟩ := items_int h3
  have hlen : ns.length ≤ n := by
    unfold OpenLaw.pre at hc
    have h4 : (WTm.not (.lt (.lit (.int (n : Int))) (.len (.arg 0)))).holds [] { args := [.list (ns.map .int)] } = true := by
      have h4 := (holds_andW hc).1
      rw [hn] at h4
      exact h4
    have h5 := condW_of h4 (w_not (w_lt w_lit (w_len_list (w_arg rfl))))
    rw [List.length_map] at h5
    refine Nat.le_of_not_lt fun q => ?_
    have q' : (n : Int) < ((ns.length : Nat) : Int) := by omega
    first
      | (rw [decide_eq_true q'] at h5; exact absurd h5 (by decide))
      | (simp at h5; omega)
  cases hwl with
  | cons w1 w2 =>
    cases w2
    cases w1 with
    | list ho hall => exact ⟨_, _, ns, rfl, rfl, ho, ints_of_wellAll ns _ hall, hlen⟩

theorem post_true (l : OpenLaw) (args : List WData) : l.row.toRowW.claim.post args (.bool true) args = true :=
  postW_of (r := l.row.toRowW) (X := (true == true))
    (show WShape.has [] (.bool true) .bool = true by first | rfl | decide | simp [WShape.has, WShape.arms, WShape.armsAll])
    (show (WTm.eq .res (.lit (.bool true))).value [] { args := args, res := some (.bool true), after := args } = some (.bool (true == true)) from w_eq_bool (w_res rfl) w_lit) rfl

theorem attach_call {l : OpenLaw} {n : Nat} {q : Program} {loose : List Str} {XP : (Str → Option Value) → Heap → Prop} {YP : World → Heap → Prop} {d : DefRec}
    (hn : l.most = some n) (hdf : d.params.defaults = [])
    (call : ∀ (w : World) (s₀ s₁ : Shared) (mg mb : Str → Option Value) (fa : Addr) (o : Obj) (pm cd doc : Value) (a : Addr) (vs : List Value) (ns : List Int),
      Ground q loose [] XP w s₀ mg mb s₁.heap → YP w s₁.heap →
      s₁.heap.get? fa = some o → o.data = .func (docDef d.name d.params d.body d.scope pm cd doc) → s₁.heap.CodeRec cd d.name → mg d.name = some (.ref fa) →
      s₁.heap.get? a = some { cls := .type "list", data := .seq vs.toArray } → IntsAre vs ns → ns.length ≤ n → s₁.gens = #[] →
      codeAny (model l.prog w) callerA (.call (.ref fa) ⟨[.ref a], []⟩) (fun r s' => r = .ok (.ret (.bool true)) ∧ OldK s₁.heap s'.heap ∧ s'.os = s₁.os ∧ AllBare s'.gens) s₁) :
    WalkO q loose XP YP l.row.toRowW d [] (fun f vs => PySem.call f vs) := by
  intro w s₀ s₁ mg mb G Y fa o pm cd doc dV kV ho hd hcd hD hmg hg args vals as hpre hlay hrd hwl hlo
  obtain rfl : dV = .none := Dflts.none hD hdf
  obtain rfl : kV = .none := Dflts.noKw hD
  obtain ⟨a, vs, ns, rfl, rfl, hobj, hints, hlen⟩ := script_of hn hpre hwl
  refine enter_call (codeAny_mono (call w s₀ s₁ mg mb fa o pm cd doc a vs ns G Y ho (fd_plain hd) hcd hmg hobj hints hlen hg) fun r s' hq => ?_)
  obtain ⟨rfl, h2, h3, h4⟩ := hq
  exact ⟨.inl ⟨.bool true, .bool true, [], rfl, fun _ => rfl, .bool true, post_true l _, fun _ => ⟨List.Pairwise.nil, fun _ hm => (nomatch hm)⟩⟩, h2, h3, h4⟩

section
variable {prog : Program} {w : World} {A : Around} {E : Value → Shared → Prop} {s : Shared} {K : Frag}
end
end Att
namespace L2
open PySem PySem.Spec PyProof.Rows
theorem vals_ints : ∀ {vs : List Value} {ns : List Int}, IntsAre vs ns → Vals (ns.map V.int) vs
  | _, _, .nil => .nil
  | _, _, .cons n t h => .cons ⟨t, rfl⟩ (vals_ints h)

def Only (H : Hp) : Prop := ∀ b, H b = none ∨ ∃ o xs, H b = some (.frz o (.lst xs))

theorem law_call {P : Program} {w : World} {K : PySem.W.Frag} {mg mb : Str → Option Value} {CX : CXT} {k : Nat} {fa a : Addr} {fd : FuncData} {x : Str} {sp : Sp} {s₁ : Shared} {vs : List Value} {ns : List Int}
    (KX : K.In s₁.heap) (hns : s₁.heap.Ns mainGlobals mg) (hb : s₁.heap.Ns builtinsNs mb) (hbb : ∀ x : Str, x ≠ "__name__" → mb x = bootBuiltins x) (hlim : s₁.heap.NoLimit) (hg : s₁.gens = #[])
    (ha : s₁.heap.get? a = some { cls := .type "list", data := .seq vs.toArray }) (hi : IntsAre vs ns) (hl : ns.length ≤ sizeLine) (hr : Room k callerA)
    (F : ∀ base : Heap, K.In base → base.Ns mainGlobals mg → FnOk P w K mg base CX k fa fd [x] sp) (hbind : ∀ (s : Shared) (u : Value), BindsTo s fd ⟨[u], []⟩ [(x, u)])
    (hsp : ∀ H : Hp, Only H → SqL K H a (ns.map V.int) → sp [.ref a] H (fun v _ => v = .bl true) fun _ _ _ => False)
    (hCX : ∀ H e s', CX [] H s₁ (fun _ _ _ => False) e s' → False) :
    codeAny (model P w) callerA (.call (.ref fa) ⟨[.ref a], []⟩) (fun r s' => r = .ok (.ret (.bool true)) ∧ OldK s₁.heap s'.heap ∧ s'.os = s₁.os ∧ AllBare s'.gens) s₁ := by
  have rv := vals_ints hi
  have lenV := hi.length
  -- from an abstract heap in which nothing but the script may be tracked
  have core : ∀ H : Hp, Only H → SqL K H a (ns.map V.int) → HOk P w H s₁.heap → (∀ b, H b ≠ none → b = a) → (H a ≠ none → K.lookup a = none) →
      codeAny (model P w) callerA (.call (.ref fa) ⟨[.ref a], []⟩) (fun r s' => r = .ok (.ret (.bool true)) ∧ OldK s₁.heap s'.heap ∧ s'.os = s₁.os ∧ AllBare s'.gens) s₁ := by
    intro H hO hS hok hA hK
    have base_of : ∀ {b : Addr} {o : Obj}, s₁.heap.get? b = some o → H b = none → (hidT s₁.heap H).get? b = some o := fun e n => hidT_get e n
    have noA : ∀ {b : Addr} {o : Obj} {es : Array DictEntry} {ep : Nat}, s₁.heap.get? b = some o → o.data = .dict es ep → H b = none := fun {b o es ep} e d => by
      cases q : H b with
      | none => rfl
      | some u =>
        have e' : b = a := hA b (by rw [q]; simp)
        subst e'
        rw [ha] at e; cases e
        have d' : Data.seq vs.toArray _ = Data.dict es ep := d
        cases d'
    have nsK : ∀ {b : Addr} {m : Str → Option Value}, s₁.heap.Ns b m → (hidT s₁.heap H).Ns b m := fun {b m} ⟨o, es, ep, e, d, r⟩ => ⟨o, es, ep, base_of e (noA e d), d, r⟩
    have hKb : K.In (hidT s₁.heap H) := fun b o e => base_of (KX b o e) (by
      cases q : H b with
      | none => rfl
      | some u =>
        have e' : b = a := hA b (by rw [q]; simp)
        subst e'
        rw [hK (by rw [q]; simp)] at e; cases e)
    have hM : Mod K mg (hidT s₁.heap H) := ⟨hKb, nsK hns, ⟨mb, nsK hb, hbb⟩, let ⟨mc, h1, h2⟩ := hlim; ⟨mc, nsK h1, h2⟩⟩
    have e0 : Env0 P w K mg (hidT s₁.heap H) callerA [] s₁ H := ⟨rfl, hM, fun b o e => of_hidT e, Nat.le_of_eq (hidT_size _ _), trivial, fun b hb => absurd (show b ∈ ([] : List Addr) from hb) (by simp), hok, .of_eq hg⟩
    refine codeAny_mono ((F _ hKb (nsK hns)).run callerA [] s₁ H ⟨[.ref a], []⟩ [.ref a] [.ref a] _ _ hr e0 (hbind s₁ (.ref a)) (.cons rfl .nil) (hsp H hO hS)) fun r s' h => ?_
    cases r with
    | error e => exact (hCX H e s' h).elim
    | ok fl =>
      cases fl with
      | next => exact False.elim h
      | brk => exact False.elim h
      | cont => exact False.elim h
      | ret u =>
        obtain ⟨v, H', os, bare, un, hok', r', q⟩ := h
        have q' : v = .bl true := q
        subst q'
        obtain rfl : u = Value.bool true := r'
        refine ⟨rfl, OldK.of_keep fun b o e => ?_, os, bare⟩
        cases q : H b with
        | none => exact un.keep b o e q (by intro z; exact absurd (show b ∈ ([] : List Addr) from z) (by simp)) (by simp)
        | some u =>
          rcases hO b with z | ⟨ob, xs, z⟩
          · rw [q] at z; cases z
          · have z2 := un.frzs b ob _ z
            obtain ⟨e1, _⟩ := hok b _ z
            obtain ⟨e2, _⟩ := hok' b _ z2
            rw [e] at e1; cases e1
            exact e2
  cases hk : K.lookup a with
  | some o =>
    -- the script is one of the module's own objects
    have e := KX a o hk
    rw [ha] at e
    cases e
    refine core (fun _ => none) (fun _ => .inl rfl) (.inr ⟨_, vs.toArray, _, hk, rfl, rfl, rfl, by rw [List.size_toArray, lenV]; exact hl, by simpa using rv⟩) (fun b u z => by have z' : (none : Option HO) = some u := z; cases z') (fun b z => absurd rfl z) fun z => absurd rfl z
  | none =>
    refine core (fun b => if b = a then some (.frz { cls := .type "list", data := .seq vs.toArray } (.lst (ns.map V.int))) else none) (fun b => ?_) (.inl (.inr ⟨{ cls := .type "list", data := .seq vs.toArray }, if_pos rfl⟩)) (fun b u z => ?_) (fun b z => ?_) fun _ => hk
    · by_cases hb : b = a
      · exact .inr ⟨_, _, if_pos hb⟩
      · exact .inl (if_neg hb)
    · by_cases hb : b = a
      · have z' := (if_pos hb).symm.trans z
        cases z'
        subst hb
        exact ⟨ha, by rw [List.length_map]; exact hl, vs, _, rv, ha⟩
      · have z' := (if_neg hb).symm.trans z
        cases z'
    · by_cases hb : b = a
      · exact hb
      · exact absurd (if_neg hb) z
end L2
namespace L2
open PySem PySem.Spec PyProof.Rows
theorem walk_of {l : PySem.W.OpenLaw} {n k : Nat} {q : Program} {loose : List Str} {XP : (Str → Option Value) → Heap → Prop} {YP : World → Heap → Prop} {d : DefRec} {K : Params → PySem.W.Frag} {CX : World → CXT} {sp : World → Sp} {x : Str}
    (hn : l.most = some n) (hn2 : n ≤ sizeLine) (hdf : d.params.defaults = []) (hr : Room k callerA)
    (hY : ∀ (w : World) (h : Heap), YP w h → (K w.params).In h)
    (F : ∀ (w : World) (mg : Str → Option Value) (fa : Addr) (h : Heap), (K w.params).In h → h.Ns mainGlobals mg → mg d.name = some (.ref fa) →
      ∃ fd : FuncData, (∀ (s : Shared) (u : Value), BindsTo s fd ⟨[u], []⟩ [(x, u)]) ∧
        ∀ base : Heap, (K w.params).In base → base.Ns mainGlobals mg → FnOk l.prog w (K w.params) mg base (CX w) k fa fd [x] (sp w))
    (hsp : ∀ (w : World) (H : Hp) (a : Addr) (ns : List Int), ns.length ≤ n → Only H → SqL (K w.params) H a (ns.map V.int) → sp w [.ref a] H (fun v _ => v = .bl true) fun _ _ _ => False)
    (hCX : ∀ (w : World) (H : Hp) (s : Shared) (e : Value) (s' : Shared), CX w [] H s (fun _ _ _ => False) e s' → False) :
    PySem.W.WalkO q loose XP YP l.row.toRowW d [] (fun f vs => PySem.call f vs) := by
  refine Att.attach_call hn hdf fun w s₀ s₁ mg mb fa o pm cd doc a vs ns G Y ho hd hcd hmg hobj hints hlen hg => ?_
  have KX := hY w _ Y
  obtain ⟨fd, hb, hF⟩ := F w mg fa _ KX G.T.g hmg
  exact law_call KX G.T.g G.T.b G.T.builtins G.T.nolimit hg hobj hints (Nat.le_trans hlen hn2) hr hF hb (fun H hO hS => hsp w H a ns hlen hO hS) fun H e s' => hCX w H s₁ e s'
end L2
namespace L2
open PySem PySem.Spec PyProof.Rows
def inClass (s : Stmt) (j : Nat) : Stmt := match s with
  | .ClassDef _ _ _ body _ _ _ _ _ _ _ => body.getD j (.Pass ⟨0, 0, 0, 0⟩)
  | _ => .Pass ⟨0, 0, 0, 0⟩
def defArgs (s : Stmt) : Arguments := match s with
  | .FunctionDef _ a _ _ _ _ _ _ _ _ => a
  | _ => { posonlyargs := [], args := [], vararg := none, kwonlyargs := [], kw_defaults := [], kwarg := none, defaults := [] }
def defBody (s : Stmt) : List Stmt := match s with
  | .FunctionDef _ _ b _ _ _ _ _ _ _ => b
  | _ => []
def defScope (s : Stmt) : Scope := match s with
  | .FunctionDef _ _ _ _ _ _ sc _ _ _ => sc
  | _ => { kind := .function, names := [], isGenerator := false, isCoroutine := false }

abbrev CX0 : CXT := fun _ _ _ _ _ _ => False
abbrev E0 : XK := fun _ _ _ => False
theorem pass0 {X : Cx} : Passes CX0 X E0 := fun _ _ _ _ _ _ _ h => h.elim

structure Fun (K : PySem.W.Frag) (x qual : Str) (st : Stmt) (f : Addr) (fd : FuncData) : Prop where
  ex : ∃ (oc : Value) (od : Option Addr) (kV doc pm : Value) (an : Option Addr) (cdv ct : Value) (osl : Array (Option Value)),
    fd = PySem.W.fnOf x qual (defArgs st) (defBody st) (defScope st) .none kV doc pm an cdv ct ∧ K.lookup f = some ⟨oc, od, .func fd, osl⟩ ∧ PySem.W.codeIn K cdv qual = true
  kp : PySem.W.keepIn K (.ref f) = true
section
variable {P : Program} {w : World} {K : PySem.W.Frag} {mg : Str → Option Value} {base : Heap}
theorem Fun.ok {x qual : Str} {st : Stmt} {f : Addr} {fd : FuncData} {N ps : List Str} {k : Nat} {sp : Sp} (F : Fun K x qual st f fd) (S : FnScope N ps (defScope st)) (len : ∀ vs H Q E, sp vs H Q E → vs.length = ps.length)
    (hbody : ∀ (cdv : Value) (A : Around) (outer : List Env) (s : Shared) (H : Hp) (vs : List V) (Q : VK) (E : XK), Room k (A.deeper (envOfC qual (defScope st) s.heap.objs.size f cdv)) → sp vs H Q E →
      ∃ t, PSs (cxOf CX0 P w K mg base N qual (defScope st) f cdv A outer s H E).nox (defBody st) t ∧ t { nx := fun _ H' => Q .non H', rt := Q } (start N vs) H) : FnOk P w K mg base CX0 (k + 1) f fd ps sp := by
  obtain ⟨oc, od, kV, doc, pm, an, cdv, ct, osl, rfl, lk, hcd⟩ := F.ex
  refine fn_of lk hcd S len fun A outer s H vs Q E hr hsp => ?_
  obtain ⟨t, h, q⟩ := hbody cdv A outer s H vs Q E hr hsp
  exact ⟨t, h.nox, q⟩
theorem Fun.binds {x qual : Str} {st : Stmt} {f : Addr} {fd : FuncData} {ps : List Str} (F : Fun K x qual st f fd)
    (h : ∀ (kV doc pm : Value) (an : Option Addr) (cdv ct : Value) (us : List Value), us.length = ps.length → bindArgs (PySem.W.fnOf x qual (defArgs st) (defBody st) (defScope st) .none kV doc pm an cdv ct) ⟨us, []⟩ = pure (ps.zip us)) : Binds K fd ps [] := by
  obtain ⟨oc, od, kV, doc, pm, an, cdv, ct, osl, rfl, lk, hcd⟩ := F.ex
  exact .all (h kV doc pm an cdv ct)
theorem fun_mk {x qual : Str} {st : Stmt} {f : Addr} {oc : Value} {od an : Option Addr} {osl : Array (Option Value)} {kV doc pm cdv ct : Value} (l : K.lookup f = some ⟨oc, od, .func (PySem.W.fnOf x qual (defArgs st) (defBody st) (defScope st) .none kV doc pm an cdv ct), osl⟩)
    (c : PySem.W.codeIn K cdv qual = true) (k : PySem.W.keepIn K (.ref f) = true) : Fun K x qual st f (PySem.W.fnOf x qual (defArgs st) (defBody st) (defScope st) .none kV doc pm an cdv ct) := ⟨⟨oc, od, kV, doc, pm, an, cdv, ct, osl, rfl, l, c⟩, k⟩
end
theorem hu_of {A : Around} {k : Nat} (hr : Room k A) : A.units + 1 < cLine := Nat.lt_of_le_of_lt (Nat.add_le_add_left (by decide : 1 ≤ 64) _) hr.units
section
variable {X : Cx}
theorem pv (i : Nat) {x : Str} {pos : Pos} (hN : X.N[i]? = some x := by rfl) (hv : Vis X.env.scope x := by first | exact Or.inl rfl | exact Or.inr (Or.inl rfl) | exact Or.inr (Or.inr rfl)) (hd : (x == ("__debug__" : Str)) = false := by decide)
    (hcd : (x == ("__classdict__" : Str)) = false := by decide) : PE X (.Name x pos) (tVar i) := pe_var hN hv hd hcd
end
theorem iteF {A B : Prop} (h : B) : if false = true then A else B := by
  rw [if_neg Bool.false_ne_true]
  exact h
theorem iteT {A B : Prop} (h : A) : if true = true then A else B := by
  rw [if_pos rfl]
  exact h
def Same (H H' : Hp) : Prop := ∀ b o, H b = some o → H' b = some o
theorem Same.refl (H : Hp) : Same H H := fun _ _ h => h
theorem Same.trans {H H1 H2 : Hp} (a : Same H H1) (b : Same H1 H2) : Same H H2 := fun c o h => b c o (a c o h)
theorem Same.free {H H' : Hp} (e : Same H H') {l : Addr} (h : H' l = Option.none) : H l = Option.none := by
  cases q : H l with
  | none => rfl
  | some o =>
    rw [e l o q] at h
    cases h
theorem Same.seq {K : PySem.W.Frag} {H H' : Hp} {a : Addr} {xs : List V} (e : Same H H') (h : SqL K H a xs) : SqL K H' a xs := by
  rcases h with (h | ⟨o, h⟩) | h
  · exact .inl (.inl (e _ _ h))
  · exact .inl (.inr ⟨o, e _ _ h⟩)
  · exact .inr h

end L2
set_option Elab.async false
set_option linter.all false
set_option maxRecDepth 100000
namespace L2
open PySem PySem.Spec PyProof.Rows
section
variable {κ : Type} [DecidableEq κ]
def valV (kvs : List (κ × V)) (k : κ) : Option V := (kvs.find? fun kv => decide (kv.1 = k)).map (·.2)
def putK (kvs : List (κ × V)) (k : κ) (v : V) : List (κ × V) :=
  if (kvs.any fun kv => decide (kv.1 = k)) = true then kvs.map (fun kv => if kv.1 = k then (kv.1, v) else kv) else kvs ++ [(k, v)]
def dropK (kvs : List (κ × V)) (k : κ) : List (κ × V) := kvs.filter fun kv => decide (kv.1 ≠ k)

theorem valV_pos {p : κ × V} {r : List (κ × V)} {k : κ} (e : p.1 = k) : valV (p :: r) k = some p.2 := by simp [valV, List.find?_cons, e]
theorem valV_neg {p : κ × V} {r : List (κ × V)} {k : κ} (e : ¬ p.1 = k) : valV (p :: r) k = valV r k := by simp [valV, List.find?_cons, e]
theorem valV_any (k : κ) : ∀ kvs : List (κ × V), (kvs.any fun kv => decide (kv.1 = k)) = (valV kvs k).isSome
  | [] => rfl
  | p :: r => by
    rw [List.any_cons]
    by_cases e : p.1 = k
    · simp only [valV_pos e, decide_eq_true e, Bool.true_or, Option.isSome_some]
    · rw [valV_neg e, decide_eq_false e, Bool.false_or]; exact valV_any k r
theorem length_putK (kvs : List (κ × V)) (k : κ) (v : V) : (putK kvs k v).length ≤ kvs.length + 1 := by
  unfold putK
  split
  · rw [List.length_map]; omega
  · rw [List.length_append, List.length_cons, List.length_nil]; omega
theorem RelO.isSome_eq {o : Option V} {u : Option Value} (r : RelO o u) : o.isSome = u.isSome := by
  cases o with
  | none => cases u with
    | none => rfl
    | some _ => exact (show False from r).elim
  | some _ => cases u with
    | none => exact (show False from r).elim
    | some _ => rfl
theorem RelO.getD {o : Option V} {u : Option Value} {d : V} {d' : Value} (r : RelO o u) (rd : RelV d d') : RelV (o.getD d) (u.getD d') := by
  cases o with
  | none => cases u with
    | none => exact rd
    | some _ => exact (show False from r).elim
  | some _ => cases u with
    | none => exact (show False from r).elim
    | some _ => exact r

theorem KV.val {kvs : List (κ × V)} {vs : List (κ × Value)} (r : KV kvs vs) (k : κ) : RelO (valV kvs k) (valueAt vs k) := by
  unfold KV at r
  induction r with
  | nil => exact True.intro
  | @cons p q ps qs h t ih =>
    obtain ⟨h1, h2⟩ := h
    by_cases e : p.1 = k
    · have e' : q.1 = k := h1.symm.trans e
      have b : valueAt (q :: qs) k = some q.2 := by simp [valueAt, List.find?_cons, e']
      rw [valV_pos e, b]; exact h2
    · have e' : ¬ q.1 = k := fun z => e (h1.trans z)
      have b : valueAt (q :: qs) k = valueAt qs k := by simp [valueAt, List.find?_cons, e']
      rw [valV_neg e, b]; exact ih
theorem KV.any {kvs : List (κ × V)} {vs : List (κ × Value)} (r : KV kvs vs) (k : κ) : (kvs.any fun kv => decide (kv.1 = k)) = vs.any fun kv => decide (kv.1 = k) := by
  unfold KV at r
  induction r with
  | nil => rfl
  | cons h t ih => rw [List.any_cons, List.any_cons, ih, h.1]
theorem KV.repl {kvs : List (κ × V)} {vs : List (κ × Value)} (r : KV kvs vs) (k : κ) {y : V} {u : Value} (ry : RelV y u) :
    KV (kvs.map fun kv => if kv.1 = k then (kv.1, y) else kv) (vs.map fun kv => if kv.1 = k then (kv.1, u) else kv) := by
  unfold KV at r ⊢
  induction r with
  | nil => exact .nil
  | @cons p q ps qs h t ih =>
    rw [List.map_cons, List.map_cons]
    refine .cons ?_ ih
    obtain ⟨h1, h2⟩ := h
    by_cases e : p.1 = k
    · rw [if_pos e, if_pos (h1.symm.trans e)]; exact ⟨h1, ry⟩
    · rw [if_neg e, if_neg (fun z => e (h1.trans z))]; exact ⟨h1, h2⟩
theorem KV.put {kvs : List (κ × V)} {vs : List (κ × Value)} (r : KV kvs vs) (k : κ) {y : V} {u : Value} (ry : RelV y u) : KV (putK kvs k y) (stored vs k u) := by
  unfold putK stored
  rw [r.any k]
  by_cases e : (vs.any fun kv => decide (kv.1 = k)) = true
  · rw [if_pos e, if_pos e]; exact r.repl k ry
  · rw [if_neg e, if_neg e]; exact Paired.snoc r ⟨rfl, ry⟩
theorem KV.drop {kvs : List (κ × V)} {vs : List (κ × Value)} (r : KV kvs vs) (k : κ) : KV (dropK kvs k) (without vs k) := by
  unfold KV at r ⊢
  unfold dropK without
  induction r with
  | nil => exact .nil
  | @cons p q ps qs h t ih =>
    obtain ⟨h1, h2⟩ := h
    rw [List.filter_cons, List.filter_cons]
    by_cases e : p.1 = k
    · have a : ¬ decide (p.1 ≠ k) = true := by simp [e]
      have b : ¬ decide (q.1 ≠ k) = true := by simp [h1.symm.trans e]
      rw [if_neg a, if_neg b]; exact ih
    · have e' : ¬ q.1 = k := fun z => e (h1.trans z)
      have a : decide (p.1 ≠ k) = true := by simp [e]
      have b : decide (q.1 ≠ k) = true := by simp [e']
      rw [if_pos a, if_pos b]; exact .cons ⟨h1, h2⟩ ih
theorem KV.keys {kvs : List (κ × V)} {vs : List (κ × Value)} (r : KV kvs vs) : kvs.map (·.1) = vs.map (·.1) := by
  unfold KV at r
  induction r with
  | nil => rfl
  | cons h t ih => rw [List.map_cons, List.map_cons, ih, h.1]
theorem KV.length {kvs : List (κ × V)} {vs : List (κ × Value)} (r : KV kvs vs) : kvs.length = vs.length := Paired.length r
end
theorem kV_is {P : Program} {w : World} {k : Key} {u : Value} (r : RelV (kV k) u) : (mixKind P w).is k u = true := by
  cases k with
  | inl i => obtain ⟨t, e⟩ := (show ∃ t, u = Value.int i t from r); subst e; exact mixKind_int P w i t
  | inr x => obtain ⟨t, e⟩ := (show ∃ t, u = Value.str x t from r); subst e; exact mixKind_str P w x t
theorem items_are {P : Program} {w : World} : ∀ {ks : List Key} {us : List Value}, Vals (ks.map kV) us → ItemsAre (mixKind P w) ks us
  | [], _, r => by rw [List.map_nil] at r; cases r; exact .nil
  | k :: ks, _, r => by
    rw [List.map_cons] at r
    cases r with
    | cons h t => exact .cons (kV_is h) (items_are t)

abbrev KT (H : Hp) : List (List Key × V) → List (List Key × Addr × Value) → Prop := Paired fun p q => p.1 = q.1 ∧ H q.2.1 = some (.tup (p.1.map kV)) ∧ RelV p.2 q.2.2
theorem KT.val {H : Hp} {kvs : List (List Key × V)} {xs : List (List Key × Addr × Value)} (r : KT H kvs xs) (k : List Key) : RelO (valV kvs k) ((atKey xs k).map (·.2)) := by
  induction r with
  | nil => exact True.intro
  | @cons p q ps qs h t ih =>
    obtain ⟨h1, _, h2⟩ := h
    by_cases e : p.1 = k
    · have e' : q.1 = k := h1.symm.trans e
      have b : atKey (q :: qs) k = some q.2 := by simp [atKey, List.find?_cons, e']
      rw [valV_pos e, b]; exact h2
    · have e' : ¬ q.1 = k := fun z => e (h1.trans z)
      have b : atKey (q :: qs) k = atKey qs k := by simp [atKey, List.find?_cons, e']
      rw [valV_neg e, b]; exact ih
theorem KT.repl {H : Hp} {kvs : List (List Key × V)} {xs : List (List Key × Addr × Value)} (r : KT H kvs xs) (k : List Key) {y : V} {u : Value} (ry : RelV y u) :
    KT H (kvs.map fun kv => if kv.1 = k then (kv.1, y) else kv) (xs.map (putAt k u)) := by
  induction r with
  | nil => exact .nil
  | @cons p q ps qs h t ih =>
    rw [List.map_cons, List.map_cons]
    refine .cons ?_ ih
    obtain ⟨h1, h2, h3⟩ := h
    unfold putAt
    by_cases e : p.1 = k
    · rw [if_pos e, if_pos (h1.symm.trans e)]; exact ⟨h1, h2, ry⟩
    · rw [if_neg e, if_neg (fun z => e (h1.trans z))]; exact ⟨h1, h2, h3⟩
theorem KT.put {H : Hp} {kvs : List (List Key × V)} {xs : List (List Key × Addr × Value)} (r : KT H kvs xs) (k : List Key) {b : Addr} {y : V} {u : Value} (hb : H b = some (.tup (k.map kV))) (ry : RelV y u) :
    KT H (putK kvs k y) (storedH xs k b u) := by
  have e : (kvs.any fun kv => decide (kv.1 = k)) = (atKey xs k).isSome := by
    rw [valV_any, (r.val k).isSome_eq, Option.isSome_map]
  unfold putK storedH
  rw [e]
  by_cases q : (atKey xs k).isSome = true
  · rw [if_pos q, if_pos q]; exact r.repl k ry
  · rw [if_neg q, if_neg q]; exact Paired.snoc r ⟨rfl, hb, ry⟩
theorem KT.keeps {H H' : Hp} {kvs : List (List Key × V)} {xs : List (List Key × Addr × Value)} (r : KT H kvs xs) (ht : ∀ b ys, H b = some (.tup ys) → H' b = some (.tup ys)) : KT H' kvs xs :=
  Paired.mapP r fun _ _ z => ⟨z.1, ht _ _ z.2.1, z.2.2⟩

section
variable {P : Program} {w : World} {H : Hp} {h : Heap} {a : Addr}
theorem rd_of {u : HO} (ok : HOk P w H h) (e : Rd H a u) : ObjOk P w H h a u := e.ok ok
theorem dk_rd {kvs : List (Key × V)} (ok : HOk P w H h) (e : Rd H a (.dK kvs)) : kvs.length ≤ sizeLine ∧ (a == sysModules) = false ∧ ∃ vs, KV kvs vs ∧ h.DictOf (mixKind P w) a vs :=
  show ObjOk P w H h a (.dK kvs) from rd_of ok e
theorem dk_of {kvs : List (Key × V)} (ok : HOk P w H h) (e : H a = some (.dK kvs)) : kvs.length ≤ sizeLine ∧ (a == sysModules) = false ∧ ∃ vs, KV kvs vs ∧ h.DictOf (mixKind P w) a vs := dk_rd ok (.inl e)
theorem key_of {ks : List Key} (ok : HOk P w H h) (e : H a = some (.tup (ks.map kV))) : (tupleKind (mixKind P w)).is h ks a := by
  obtain ⟨_, its, r, o, h1, h2, n, h3⟩ := (show ObjOk P w H h a (.tup (ks.map kV)) from ok a _ e)
  exact ⟨o, its.toArray, n, h1, h2, h3, by simpa using items_are r⟩
theorem dt_rd {kvs : List (List Key × V)} (ok : HOk P w H h) (e : Rd H a (.dT kvs)) : kvs.length ≤ sizeLine ∧ (a == sysModules) = false ∧
    ∃ xs, KT H kvs xs ∧ h.DictOfH (tupleKind (mixKind P w)) a xs := by
  obtain ⟨z, y, xs, r, o, es, ep, h1, h2, h3, h4, h5⟩ := (show ObjOk P w H h a (.dT kvs) from rd_of ok e)
  refine ⟨z, y, xs, r, o, es, ep, h1, h2, h3, h4, fun x hx => ?_, h5⟩
  have all : ∀ {l : List (List Key × V)} {m : List (List Key × Addr × Value)}, KT H l m → ∀ x ∈ m, (tupleKind (mixKind P w)).is h x.1 x.2.1 := by
    intro l m q
    induction q with
    | nil => intro x hx; exact nomatch hx
    | @cons p q ps qs hq t ih =>
      intro x hx
      rcases List.mem_cons.mp hx with e | hx
      · subst e
        exact key_of ok (by rw [← hq.1]; exact hq.2.1)
      · exact ih x hx
  exact all r x hx
theorem dt_of {kvs : List (List Key × V)} (ok : HOk P w H h) (e : H a = some (.dT kvs)) : kvs.length ≤ sizeLine ∧ (a == sysModules) = false ∧
    ∃ xs, KT H kvs xs ∧ h.DictOfH (tupleKind (mixKind P w)) a xs := dt_rd ok (.inl e)
end
def DGet (H : Hp) (a : Addr) (y : V) (r : Option V) : Prop :=
  (∃ kvs k, Rd H a (.dK kvs) ∧ y = kV k ∧ r = valV kvs k) ∨ ∃ kvs k b, Rd H a (.dT kvs) ∧ y = .ref b ∧ H b = some (.tup (k.map kV)) ∧ r = valV kvs k
def DPut (H : Hp) (a : Addr) (y v : V) (H' : Hp) : Prop :=
  (∃ kvs k, H a = some (.dK kvs) ∧ y = kV k ∧ kvs.length < sizeLine ∧ H' = upd H a (.dK (putK kvs k v))) ∨
  ∃ kvs k b, H a = some (.dT kvs) ∧ y = .ref b ∧ H b = some (.tup (k.map kV)) ∧ kvs.length < sizeLine ∧ H' = upd H a (.dT (putK kvs k v))
theorem DGet.k {H : Hp} {a : Addr} {kvs : List (Key × V)} {k : Key} (e : H a = some (.dK kvs)) : DGet H a (kV k) (valV kvs k) := .inl ⟨kvs, k, .inl e, rfl, rfl⟩
theorem DGet.t {H : Hp} {a b : Addr} {kvs : List (List Key × V)} {k : List Key} (e : H a = some (.dT kvs)) (eb : H b = some (.tup (k.map kV))) : DGet H a (.ref b) (valV kvs k) := .inr ⟨kvs, k, b, .inl e, rfl, eb, rfl⟩
theorem DPut.k {H : Hp} {a : Addr} {kvs : List (Key × V)} {k : Key} {v : V} (e : H a = some (.dK kvs)) (hl : kvs.length < sizeLine) : DPut H a (kV k) v (upd H a (.dK (putK kvs k v))) := .inl ⟨kvs, k, e, rfl, hl, rfl⟩
theorem DPut.t {H : Hp} {a b : Addr} {kvs : List (List Key × V)} {k : List Key} {v : V} (e : H a = some (.dT kvs)) (eb : H b = some (.tup (k.map kV))) (hl : kvs.length < sizeLine) :
    DPut H a (.ref b) v (upd H a (.dT (putK kvs k v))) := .inr ⟨kvs, k, b, e, rfl, eb, hl, rfl⟩


section
variable {X : Cx} {pins : List (Addr × Obj)} {σ : St} {H : Hp} {s : Shared} {a : Addr} {y v : V} {u r : Value} {o : Option V} {A : Around} {E : Value → Shared → Prop}
theorem Inv.big (I : Inv X pins σ H s) : sysModules < s.heap.objs.size := by
  have h : mainGlobals < s.heap.objs.size := (I.mod.glob.keeps I.bk).lt
  exact Nat.lt_trans (by decide) h

theorem d_write {h' : Heap} {t' : Nat} {ob : HO} (I : Inv X pins σ H s) (mu : Mut (H a)) (hs : Heap.SameBut a s.heap h') (he : ∃ q, h'.get? a = some q) (new : ObjOk X.prog X.w (upd H a ob) h' a ob) :
    Inv X pins σ (upd H a ob) { s with heap := h', toks := t' } :=
  I.write (x := a) (e := a) mu (.inl rfl) (fun b q hb z => (hs.2 b hb).trans z) he new
theorem dk_new {P : Program} {w : World} {H' : Hp} {h' : Heap} {kvs : List (Key × V)} {vs : List (Key × Value)} (z : kvs.length ≤ sizeLine) (hd : (a == sysModules) = false) (rel : KV kvs vs) (dd : h'.DictOf (mixKind P w) a vs) :
    ObjOk P w H' h' a (.dK kvs) := ⟨z, hd, vs, rel, dd⟩
theorem d_setItem {H' : Hp} {Q : Unit → Shared → Prop} (hu : A.units + 1 < cLine) (I : Inv X pins σ H s) (g : DPut H a y v H') (ry : RelV y u) (rv : RelV v r) (h : ∀ s', Inv X pins σ H' s' → Q () s') :
    wpAny (model X.prog X.w) A (setItem (.ref a) u r) Q E s := by
  rcases g with ⟨kvs, k, e, ey, l, eH⟩ | ⟨kvs, k, b, e, ey, eb, l, eH⟩
  · subst ey eH
    obtain ⟨z, hd, vs, rel, dd⟩ := dk_of I.hok e
    have hz : vs.length ≤ sizeLine := by rw [← rel.length]; exact z
    have hl : (putK kvs k v).length ≤ sizeLine := by have := length_putK kvs k v; omega
    refine wpAny_setItem_pairs (hsz := hz) (kV_is ry) dd fun h' dd' hs => h _ ?_
    have he : ∃ q, h'.get? a = some q := let ⟨q, _, _, hq, _⟩ := dd'; ⟨q, hq⟩
    exact d_write I (by rw [e]; exact True.intro) hs he (dk_new hl hd (rel.put k rv) dd')
  · subst ey eH
    cases (show u = Value.ref b from ry)
    obtain ⟨z, hd, xs, rel, dd⟩ := dt_of I.hok e
    have hz : xs.length ≤ sizeLine := by rw [← Paired.length rel]; exact z
    have hl : (putK kvs k v).length ≤ sizeLine := by have := length_putK kvs k v; omega
    refine wpAny_setItem_heap (hsz := hz) (tupleKind_room_in1 hu) (key_of I.hok eb) dd fun h' dd' hs => h _ ?_
    obtain ⟨q, es, ep, hq, h2, h3, h4, _, h5⟩ := dd'
    refine d_write I (by rw [e]; exact True.intro) hs ⟨q, hq⟩ ⟨hl, hd, _, (rel.put k eb rv).keeps fun c ys ec => ?_, q, es, ep, hq, h2, h3, h4, h5⟩
    rw [upd_ne (ne_of ec e (fun z => nomatch z))]
    exact ec
end
section
variable {X : Cx} {pins : List (Addr × Obj)} {σ : St} {H : Hp} {s : Shared} {a : Addr} {kvs : List (Key × V)} {k : Key} {u : Value} {A : Around} {E : Value → Shared → Prop}
end
def NoSl (i : Expr) : Prop := ∀ ov iv, subscripted i false ov iv = operate [ov, iv] (getItem ov iv)
theorem subD_of {prog : Program} {w : World} {A : Around} {E : Value → Shared → Prop} {s : Shared} {env : Env} {value slice : Expr} {pos : Pos} {T id : String} {Q : Value → Shared → Prop}
    (hl : typeLookup (.type T) "__getitem__" = pure (some (.builtin id))) (hs : NoSl slice)
    (h : wpAny (model prog w) A (eval value env) (fun o s₁ => wpAny (model prog w) A (eval slice env) (fun i s₂ => s₂.TypeIs o T ∧ wpAny (model prog w) A (getItem o i) Q E s₂) E s₁) E s) :
    wpAny (model prog w) A (eval (.Subscript value slice pos) env) Q E s := by
  refine Subscript_ (wpAny_mono h (fun o s₁ h₁ => wpAny_mono h₁ (fun i s₂ h₂ => ?_) fun _ _ x => x) fun _ _ x => x)
  obtain ⟨hT, h₂⟩ := h₂
  unfold subscriptTail
  refine wpAny_bind ?_
  rw [getitemInPython_of_ne hT.not_modules]
  refine wpAny_bind (wpAny_specialOf hT hl ?_)
  have fin : wpAny (model prog w) A (subscripted slice false o i) (fun r s₃ => wpAny (model prog w) A (letTemporaryGo value o r >>= fun _ => pure r) Q E s₃) E s₂ := by
    rw [hs o i]
    exact wpAny_operating (wpAny_mono h₂ (fun r s₃ h₃ => wpAny_bind (wpAny_letTemporaryGo (wpAny_pure h₃))) fun _ _ x => x)
  first
    | exact wpAny_pure (wpAny_bind fin)
    | exact wpAny_bind (wpAny_pure (wpAny_bind fin))
    | exact wpAny_bind fin

def sDPut (td ty tv : TE) : TS := fun D σ H => tv σ H fun v H1 => td σ H1 fun x H2 => ty σ H2 fun y H3 => ∃ a H4, x = .ref a ∧ DPut H3 a y v H4 ∧ D.nx σ H4
section
variable {X : Cx} {o i e value : Expr} {pos pos' tpos : Pos} {td ty tv : TE}
theorem ps_dput (hu : X.A.units + 1 < cLine) (ho : PE X o td) (hi : PE X i ty) (hv : PE X value tv) (hs : swapsWith value (some (.Subscript o i pos')) pos.line X.env = pure false) :
    PS X (.Assign [.Subscript o i pos'] value pos) (sDPut td ty tv) := by
  intro pins s σ H D I h
  refine wpAny_Assign_Subscript (thn (hv pins s σ H _ I h) fun r s1 ⟨v, H1, I1, rv, q1⟩ => thn (ho pins s1 σ H1 _ I1 q1) fun u s2 ⟨x, H2, I2, rx, q2⟩ => thn (hi pins s2 σ H2 _ I2 q2) fun iv s3 ⟨y, H3, I3, ry, a, H4, ex, g, q3⟩ => ?_) hs
  subst ex
  obtain rfl : u = Value.ref a := rx
  exact d_setItem hu I3 g ry rv fun s4 I4 => ⟨σ, H4, I4, q3⟩
end
theorem dk_empty {P : Program} {w : World} {H : Hp} (h : Heap) (hb : sysModules < h.objs.size) : ObjOk P w H (h.push { cls := .type "dict", data := .dict #[] }) h.objs.size (.dK []) :=
  ⟨Nat.zero_le _, beq_eq_false_iff_ne.mpr (Ne.symm (Nat.ne_of_lt hb)), [], .nil, Heap.DictOf.new h⟩
def tDNewK : TE := fun _ H Q => ∀ p, H p = none → Q (.ref p) (upd H p (.dK []))
section
variable {X : Cx} {pos : Pos}
theorem pe_dnewK : PE X (.Dict [] [] pos) tDNewK := fun pins s σ H Q I h =>
  wpAny_Dict_empty ⟨.ref s.heap.objs.size, _, I.laid (a := s.heap.objs.size) (o := .dK []) (t' := s.toks) (fun _ _ q => Heap.get?_push_of_some _ q) (Nat.le_refl _) (dk_empty s.heap I.big), rfl, h _ (I.hok.fresh (Nat.le_refl _))⟩
end
structure M1 (X : Cx) (o : Expr) (m : Str) (apos : Pos) (e : Expr) (cpos : Pos) : Prop where
  base : attributeBase o m X.env (eval o X.env) = eval o X.env
  few : ((backTo cpos (starEach [e] X.env)).all (fun x => !x.1) && (backToKw cpos (keywordEach [] X.env)).all (fun x => x.1.isSome)
    && decide (([e] : List Expr).length + ([] : List Keyword).length + (if ([] : List Keyword).isEmpty then 0 else 1) < 30)) = true
  line : (apos.endLine == cpos.line) = true
  trees : backTo cpos (starEach [e] X.env) = [(false, eval e X.env)]
structure M2 (X : Cx) (o : Expr) (m : Str) (apos : Pos) (e f : Expr) (cpos : Pos) : Prop where
  base : attributeBase o m X.env (eval o X.env) = eval o X.env
  few : ((backTo cpos (starEach [e, f] X.env)).all (fun x => !x.1) && (backToKw cpos (keywordEach [] X.env)).all (fun x => x.1.isSome)
    && decide (([e, f] : List Expr).length + ([] : List Keyword).length + (if ([] : List Keyword).isEmpty then 0 else 1) < 30)) = true
  line : (apos.endLine == cpos.line) = true
  trees : backTo cpos (starEach [e, f] X.env) = [(false, eval e X.env), (false, eval f X.env)]

def IsD (H : Hp) (a : Addr) : Prop := (∃ kvs, Rd H a (.dK kvs)) ∨ ∃ kvs, Rd H a (.dT kvs)
section
variable {X : Cx} {pins : List (Addr × Obj)} {σ : St} {H : Hp} {s : Shared} {a : Addr} {y d : V} {u r : Value} {o : Option V} {A : Around} {E : Value → Shared → Prop}
end
section
variable {X : Cx} {o e f : Expr} {apos cpos : Pos} {td ty tx : TE}
end
section
variable {X : Cx} {pins : List (Addr × Obj)} {σ : St} {H : Hp} {s : Shared} {a : Addr} {kvs : List (Key × V)} {A : Around} {E : Value → Shared → Prop}
end
section
variable {X : Cx} {pins : List (Addr × Obj)} {σ : St} {H : Hp} {s : Shared} {a : Addr} {y : V} {u : Value} {A : Around} {E : Value → Shared → Prop}
end
end L2
set_option Elab.async false
set_option linter.all false
set_option maxRecDepth 100000
set_option maxHeartbeats 4000000
namespace L2
open PySem PySem.Spec PyProof.Rows
def Fz : HO → Prop
  | .lst _ => True
  | .dK _ => True
  | _ => False
section
variable {X : Cx} {pins : List (Addr × Obj)} {σ : St} {H : Hp} {s : Shared} {p : Addr} {u : HO}
theorem un_frz {fs ex : List Addr} {h : Heap} {o : Obj} (e : H p = some u) (f : Fz u) : Un fs ex H (upd H p (.frz o u)) h h where
  keep := fun b ob q _ _ _ => q
  slot := fun b ob q _ _ _ => ⟨ob.slots, q⟩
  free := fun b ob _ n _ => by rw [upd_ne (Ne.symm (ne_of_none e n))]; exact n
  there := fun b ob q _ => ⟨ob, q⟩
  tups := fun b xs q => by
    have : b ≠ p := fun z => by subst z; rw [e] at q; cases q; exact f
    rw [upd_ne this]; exact q
  frzs := fun b ob v q => by
    have : b ≠ p := fun z => by subst z; rw [e] at q; cases q; exact f
    rw [upd_ne this]; exact q
  tbls := fun b ps q => by
    have : b ≠ p := fun z => by subst z; rw [e] at q; cases q; exact f
    exact ⟨#[], by rw [upd_ne this, q]; simp⟩
theorem ObjOk.anyH {P : Program} {w : World} {H H' : Hp} {h : Heap} {a : Addr} (f : Fz u) (x : ObjOk P w H h a u) : ObjOk P w H' h a u := by
  cases u with
  | lst xs => exact x
  | dK kvs => exact x
  | _ => exact f.elim
theorem ObjOk.obj {P : Program} {w : World} {H : Hp} {h : Heap} {a : Addr} (f : Fz u) (x : ObjOk P w H h a u) : ∃ o, h.get? a = some o := by
  cases u with
  | lst xs => obtain ⟨_, _, _, _, e⟩ := x; exact ⟨_, e⟩
  | dK kvs => obtain ⟨_, _, _, _, o, _, _, e, _⟩ := x; exact ⟨o, e⟩
  | _ => exact f.elim
theorem Inv.freeze (I : Inv X pins σ H s) (e : H p = some u) (f : Fz u) : ∃ o, Inv X pins σ (upd H p (.frz o u)) s := by
  obtain ⟨o, ho⟩ := (I.hok p u e).obj f
  refine ⟨o, I.un (h' := s.heap) (t' := s.toks) (un_frz e f) fun b v q => ?_⟩
  by_cases hb : b = p
  · subst hb
    rw [upd_same] at q
    cases q
    exact ⟨ho, (I.hok b u e).anyH f⟩
  · rw [upd_ne hb] at q
    refine (I.hok b v q).stay (fun _ _ _ q => q) (fun c r => ?_) fun c xs r => ?_
    · have : c ≠ p := fun z => by subst z; rw [e] at r; cases r; exact f
      rw [upd_ne this]; exact r
    · have : c ≠ p := fun z => by subst z; rw [e] at r; cases r; exact f
      rw [upd_ne this]; exact r
def tFrz (t : TE) : TE := fun σ H Q => t σ H fun v H1 => ∃ p u, v = .ref p ∧ H1 p = some u ∧ Fz u ∧ ∀ o, Q v (upd H1 p (.frz o u))
theorem pe_frz {e : Expr} {t : TE} (h : PE X e t) : PE X e (tFrz t) := by
  intro pins s σ H Q I hq
  refine thn (h pins s σ H _ I hq) fun v s1 hq22 => ?_
  obtain ⟨x, H1, I1, r1, p, u, e1, e2, f, q⟩ := hq22
  obtain ⟨o, I2⟩ := I1.freeze e2 f
  exact ⟨x, _, I2, r1, q o⟩

theorem Inv.track {D : Addr} {ys : List V} {us : List Value} {n : Nat} (I : Inv X pins σ H s) (e : s.heap.get? D = some { cls := .type "list", data := .seq us.toArray n }) (hn : H D = none) (hv : Vals ys us) (hz : ys.length ≤ sizeLine)
    (h0 : X.s₀.heap.objs.size ≤ D) (hL : D ≠ X.env.locals) (hc : ∀ x c, X.env.cells.lookup x = some c → c ≠ D) (hp : ∀ p ∈ X.pn ++ pins, p.1 ≠ D) : Inv X pins σ (upd H D (.lst ys)) s := by
  have ne : ∀ b u, H b = some u → b ≠ D := fun b u q => ne_of_none q hn
  refine I.step (h' := s.heap) (g' := s.gens) (d' := s.drawn) (t' := s.toks) (ch := [D]) (fun b hb => ?_) (fun b o _ _ _ q _ => q) (fun b o _ _ _ q _ => ⟨o.slots, q⟩) (fun b o hb q n => ?_) (fun b o _ q => ⟨o, q⟩)
    (fun b xs q => by rw [upd_ne (ne b _ q)]; exact q) (fun b o u q => by rw [upd_ne (ne b _ q)]; exact q) (fun b ps q => ⟨#[], by rw [upd_ne (ne b _ q), q]; simp⟩) (fun m hm => hm) (fun b u q => ?_) I.bare
  · have e : b = D := by simpa using hb
    subst e
    exact ⟨.inr h0, hL, hc, hp⟩
  · rw [upd_ne (fun z => hb (by simp [z]))]; exact n
  · by_cases hb : b = D
    · subst hb
      rw [upd_same] at q
      cases q
      exact ⟨hz, us, n, hv, e⟩
    · rw [upd_ne hb] at q
      exact (I.hok b u q).stay (fun _ _ _ q => q) (fun c r => by rw [upd_ne (ne c _ r)]; exact r) fun c xs r => by rw [upd_ne (ne c _ r)]; exact r
end
section
variable {prog : Program} {w : World} {A : Around} {E : Value → Shared → Prop} {R : Result → Shared → Prop} {s : Shared}
abbrev testsOf (ifs : List Expr) (env : Env) : Sem Bool := forIn ifs true fun c r => if r = true then do let ok ← isTrue c env (eval c env); pure (ForInStep.yield ok) else pure (ForInStep.yield r)
theorem compLoop_own {elt target iter : Expr} {ifs : List Expr} {scope : Scope} {pos : Pos} {it acc : Value} {env : Env} (I : Nat → Shared → Prop)
    (turn : ∀ n s, I n s → wpAny (model prog w) A (pyNext it) (fun r s₁ => match r with
      | none => R (.ok .next) s₁
      | some v => wpAny (model prog w) A (letOwnedTupleGo target it v) (fun _ s₁' => wpAny (model prog w) A (assign target env v) (fun _ s₂ =>
          wpAny (model prog w) A (testsOf ifs env) (fun ok s₃ =>
            if ok = true then wpAny (model prog w) A (eval elt env) (fun x s₄ =>
              wpAny (model prog w) A (call (.builtin "list.append") [acc, x]) (fun _ s₅ => ∃ m, m < n ∧ I m s₅) (fun _ _ => False) s₄) (fun _ _ => False) s₃
            else ∃ m, m < n ∧ I m s₃) (fun _ _ => False) s₂) (fun _ _ => False) s₁') (fun _ _ => False) s₁) (fun _ _ => False) s)
    (n : Nat) (h : I n s) :
    codeAny (model prog w) A (.compLoop (.ListComp elt [⟨target, iter, ifs, 0⟩] scope pos) 0 it acc env) R s := by
  refine codeAny_loop rfl I (fun n s hI => ?_) n h
  show wpAny _ A ((compTurn (.ListComp elt [⟨target, iter, ifs, 0⟩] scope pos) 0 it acc env).onRaise (fun x => do noteFrame x env; theTreesLotGoes x)) _ _ s
  refine wpAny_noted ?_
  rw [compTurn_list]
  refine wpAny_bind (wpAny_standAt (wpAny_bind (wpAny_mono (turn n s hI) (fun r s₁ h₁ => ?_) fun _ _ h' => h'.elim)))
  cases r with
  | none => exact wpAny_pure h₁
  | some v =>
    refine wpAny_bind (wpAny_mono h₁ (fun _ s₁' h₁' => ?_) fun _ _ h' => h'.elim)
    refine wpAny_bind (wpAny_mono h₁' (fun _ s₂ h₂ => wpAny_bind (wpAny_mono h₂ (fun ok s₃ h₃ => ?_) fun _ _ h' => h'.elim)) fun _ _ h' => h'.elim)
    cases ok with
    | false => exact wpAny_pure ⟨rfl, h₃⟩
    | true =>
      exact wpAny_bind (wpAny_bind (wpAny_mono h₃ (fun x s₄ h₄ => wpAny_bind (wpAny_mono h₄ (fun _ s₅ h₅ => wpAny_pure (wpAny_pure ⟨rfl, h₅⟩)) fun _ _ h' => h'.elim)) fun _ _ h' => h'.elim))
end
theorem closure_some {scope : Scope} {env : Env} (h : ∀ x ∈ scope.names, x.2 = .free → ∃ c, env.cells.lookup x.1 = some c) :
    ∃ cl, closureFor scope env = pure cl ∧ (∀ n c, cl.lookup n = some c → env.cells.lookup n = some c) ∧ (∀ n, (n, NameKind.free) ∈ scope.names → ∃ c, cl.lookup n = some c) := by
  have key : ∀ (l : List (Str × NameKind)) (cs : List (Str × Addr)), (∀ x ∈ l, x.2 = .free → ∃ c, env.cells.lookup x.1 = some c) → (∀ n c, cs.lookup n = some c → env.cells.lookup n = some c) →
      ∃ cl : List (Str × Addr), (forIn l cs fun x r => match x with
        | (name, kind) => if (kind == NameKind.free) = true then do let a ← cellOf env name; pure (ForInStep.yield ((name, a) :: r)) else pure (ForInStep.yield r) : Sem (List (Str × Addr))) = pure cl ∧
        (∀ n c, cl.lookup n = some c → env.cells.lookup n = some c) ∧ (∀ n c, cs.lookup n = some c → ∃ c, cl.lookup n = some c) ∧ (∀ n, (n, NameKind.free) ∈ l → ∃ c, cl.lookup n = some c) := by
    intro l
    induction l with
    | nil => intro cs _ hc; exact ⟨cs, rfl, hc, fun n c e => ⟨c, e⟩, fun n hn => nomatch hn⟩
    | cons x l ih =>
      intro cs hl hc
      obtain ⟨name, kind⟩ := x
      by_cases hk : kind = .free
      · subst hk
        obtain ⟨c, e⟩ := hl (name, .free) List.mem_cons_self rfl
        obtain ⟨cl, h1, h2, h3, h4⟩ := ih ((name, c) :: cs) (fun y hy => hl y (List.mem_cons_of_mem _ hy)) (fun n d q => by
          rw [List.lookup_cons] at q
          cases hb : n == name with
          | true =>
            rw [hb] at q
            cases q
            rw [eq_of_beq hb]; exact e
          | false =>
            rw [hb] at q
            exact hc n d q)
        refine ⟨cl, ?_, h2, fun n d q => ?_, fun n hn => ?_⟩
        · rw [List.forIn_cons]
          simp only [beq_self_eq_true, if_true, cellOf, e, pure_bind]
          exact h1
        · cases hb : n == name with
          | true => exact h3 n c (by rw [List.lookup_cons, hb])
          | false => exact h3 n d (by rw [List.lookup_cons, hb]; exact q)
        · rcases List.mem_cons.mp hn with z | z
          · cases z
            exact h3 name c (by rw [List.lookup_cons]; simp)
          · exact h4 n z
      · obtain ⟨cl, h1, h2, h3, h4⟩ := ih cs (fun y hy => hl y (List.mem_cons_of_mem _ hy)) hc
        refine ⟨cl, ?_, h2, h3, fun n hn => ?_⟩
        · rw [List.forIn_cons]
          have : (kind == NameKind.free) = false := by simpa using hk
          simp only [this, Bool.false_eq_true, if_false, pure_bind]
          exact h1
        · rcases List.mem_cons.mp hn with z | z
          · cases z; exact absurd rfl hk
          · exact h4 n z
  obtain ⟨cl, h1, h2, _, h4⟩ := key scope.names [] h (fun n c e => by simp at e)
  refine ⟨cl, ?_, h2, h4⟩
  unfold closureFor
  simp only [bind_pure]
  exact h1
theorem relabel_free {sc : Scope} {env : Env} {x : Str} : ∀ {names : List (Str × NameKind)}, (names.map fun (n, k) => if (k == NameKind.free && env.scope.kind == .function && env.kindOf n == some .cell) then (n, NameKind.cell) else (n, k)).lookup x = some .cell ∨
    (names.map fun (n, k) => if (k == NameKind.free && env.scope.kind == .function && env.kindOf n == some .cell) then (n, NameKind.cell) else (n, k)).lookup x = some .free → (∀ y ∈ names, y.2 ≠ .cell) → (x, NameKind.free) ∈ names
  | [], h, _ => by simp at h
  | (n, k) :: r, h, hc => by
    have ih := @relabel_free sc env x r
    by_cases hk : (k == NameKind.free && env.scope.kind == .function && env.kindOf n == some .cell) = true
    · simp only [List.map_cons, if_pos hk, List.lookup_cons] at h
      cases hx : x == n with
      | true =>
        have e := eq_of_beq hx
        subst e
        simp only [Bool.and_eq_true] at hk
        have := eq_of_beq hk.1.1
        subst this
        exact List.mem_cons_self
      | false =>
        rw [hx] at h
        exact List.mem_cons_of_mem _ (ih h fun y hy => hc y (List.mem_cons_of_mem _ hy))
    · simp only [List.map_cons, if_neg hk, List.lookup_cons] at h
      cases hx : x == n with
      | true =>
        rw [hx] at h
        have e := eq_of_beq hx
        subst e
        rcases h with h | h
        · cases h; exact absurd rfl (hc (x, .cell) List.mem_cons_self)
        · cases h; exact List.mem_cons_self
      | false =>
        rw [hx] at h
        exact List.mem_cons_of_mem _ (ih h fun y hy => hc y (List.mem_cons_of_mem _ hy))
theorem relabel_lookup_free {env : Env} {x : Str} : ∀ {names : List (Str × NameKind)}, names.lookup x = some .free →
    (names.map fun (n, k) => if (k == NameKind.free && env.scope.kind == .function && env.kindOf n == some .cell) then (n, NameKind.cell) else (n, k)).lookup x = some .cell ∨
    (names.map fun (n, k) => if (k == NameKind.free && env.scope.kind == .function && env.kindOf n == some .cell) then (n, NameKind.cell) else (n, k)).lookup x = some .free
  | [], h => by simp at h
  | (n, k) :: r, h => by
    have ih := @relabel_lookup_free env x r
    by_cases hk : (k == NameKind.free && env.scope.kind == .function && env.kindOf n == some .cell) = true
    · simp only [List.map_cons, if_pos hk, List.lookup_cons]
      cases hx : x == n with
      | true => exact .inl rfl
      | false => rw [List.lookup_cons, hx] at h; exact ih h
    · simp only [List.map_cons, if_neg hk, List.lookup_cons]
      cases hx : x == n with
      | true => rw [List.lookup_cons, hx] at h; exact .inr h
      | false => rw [List.lookup_cons, hx] at h; exact ih h
def blk (X : Cx) (sc : Scope) (N' : List Str) (cl : List (Str × Addr)) (C : Addr) (s : Shared) (H : Hp) (ex : List Addr) (pins : List (Addr × Obj)) : Cx :=
  { X with N := N', s₀ := s, H₀ := H, env := compEnvC sc cl C X.env, outer := X.stack, ex := ex, fn := fun _ => false, pn := X.pn ++ pins, xe := fun _ _ => False }
def lcN (X : Cx) (own : List Str) (fr : List Nat) : List Str := own ++ fr.map fun j => X.N.getD j Str.empty
def lcS (k : Nat) (fr : List Nat) (σ : St) : St := List.replicate k none ++ fr.map fun j => (σ[j]?).getD none
def frOk (N : List Str) (sc : Scope) (fr : List Nat) : Bool := fr.all fun j => match N[j]? with
  | some x => sc.names.lookup x == some .free
  | none => false
structure LcOk (X : Cx) (sc : Scope) (own : List Str) (fr : List Nat) : Prop where
  kind : sc.kind = .function
  cell : ∀ y ∈ sc.names, y.2 ≠ .cell
  free : ∀ y ∈ sc.names, y.2 = .free → (X.env.kindOf y.1 = some .cell ∨ X.env.kindOf y.1 = some .free)
  names : ∀ y ∈ sc.names, y.2 = .local → sc.names.lookup y.1 = some .local
  fr : frOk X.N sc fr = true
def PTs (X : Cx) (ifs : List Expr) (t : TT) : Prop :=
  ∀ (pins : List (Addr × Obj)) (s : Shared) (σ : St) (H : Hp) (Q : Bool → Hp → Prop), Inv X pins σ H s → t σ H Q → wpAny (model X.prog X.w) X.A (testsOf ifs X.env) (TP X pins σ Q) X.xe s
def tYes : TT := fun _ H Q => Q true H
theorem pts_nil {X : Cx} : PTs X [] tYes := fun _ _ _ H _ I h => wpAny_tests_nil ⟨H, I, h⟩
theorem pts_one {X : Cx} {c : Expr} {t : TT} (h : PT X c t) : PTs X [c] t := fun pins s σ H Q I q => wpAny_tests_one (h pins s σ H Q I q)

section
variable {X : Cx} {pins : List (Addr × Obj)} {σ : St} {H : Hp} {s : Shared} {sc : Scope} {own : List Str} {fr : List Nat} {cl : List (Str × Addr)} {fp : List Addr} {C D : Addr} {s1 : Shared}
theorem frOk_get {N : List Str} {sc : Scope} {fr : List Nat} (h : frOk N sc fr = true) {j : Nat} (hj : j ∈ fr) : ∃ x, N[j]? = some x ∧ sc.names.lookup x = some .free := by
  have q := List.all_eq_true.mp h j hj
  cases e : N[j]? with
  | none => simp [e] at q
  | some x =>
    simp only [e] at q
    exact ⟨x, rfl, eq_of_beq q⟩
theorem blk_ok (L : LcOk X sc own fr) (I : Inv X pins σ H s) (hf : ∀ b ∈ fp, FpOk X pins H b) (hb : ∀ b ∈ fp, b < s.heap.objs.size) (hC : s.heap.objs.size ≤ C)
    (c1 : ∀ n c, cl.lookup n = some c → X.env.cells.lookup n = some c) (c2 : ∀ n, (n, NameKind.free) ∈ sc.names → ∃ c, cl.lookup n = some c) : (blk X sc (lcN X own fr) cl C s H fp pins).Ok where
  mod := I.ok.mod
  kind := L.kind
  glob := I.ok.glob
  blt := I.ok.blt
  above := hC
  inj := fun x y c a b => I.ok.inj x y c (c1 _ _ a) (c1 _ _ b)
  has := fun x hx => c2 x (relabel_free (sc := sc) (env := X.env) hx L.cell)
  cab := fun x c z => absurd (show false = true from z) Bool.false_ne_true
  hd := I.ok.hd
  frames := I.ok.frames
  stk := .inl rfl
  exf := fun b z => ⟨Nat.ne_of_lt (Nat.lt_of_lt_of_le (hb b z) hC), fun x c e => (hf b z).2.2.2.2.1 x c (c1 _ _ e)⟩
  bs := I.bs
  bsz := Nat.le_trans I.ok.bsz I.sz
  noex := fun b o e z => by
    rcases (hf b z).2.2.2.1 with q | q
    · exact I.ok.noex b o e q
    · exact absurd (Nat.lt_of_lt_of_le (Heap.lt_size e) (Nat.le_trans I.ok.bsz q)) (Nat.lt_irrefl _)
  exfs := fun b z q => by
    rcases List.mem_cons.mp (I.stkSub b q) with e | e
    · exact (hf b z).2.1 e
    · exact (hf b z).2.2.1 e
  funs := I.stack
  frf := I.stkFree
theorem blk_inv (L : LcOk X sc own fr) (I : Inv X pins σ H s) (hf : ∀ b ∈ fp, FpOk X pins H b) (hb : ∀ b ∈ fp, b < s.heap.objs.size) (hC : s.heap.objs.size ≤ C)
    (c1 : ∀ n c, cl.lookup n = some c → X.env.cells.lookup n = some c) (c2 : ∀ n, (n, NameKind.free) ∈ sc.names → ∃ c, cl.lookup n = some c)
    {h1 : Heap} {tk : Nat} {m : Str → Option Value} (hn : h1.Ns C m) (k : ∀ b o, s.heap.get? b = some o → h1.get? b = some o) :
    Inv (blk X sc (lcN X own fr) cl C s H fp pins) [] (lcS own.length fr σ) H { s with heap := h1, toks := tk } := by
  have ok := blk_ok L I hf hb hC c1 c2
  refine ⟨ok, rfl, I.bare, Un.kept k, ⟨m, hn, fun i x v e1 e2 e3 => ?_⟩, fun x c e => ?_, I.hok.fresh hC, fun x c e => I.freeC x c (c1 _ _ e), fun p hp => ?_, I.hok.kept k, ?_⟩
  · -- one of the names around
    have hi : ¬ i < own.length := fun hi => by
      unfold lcS at e2
      rw [List.getElem?_append_left (by simpa using hi), List.getElem?_replicate] at e2
      split at e2 <;> cases e2
    have e1' : (lcN X own fr)[i]? = some x := e1
    unfold lcN at e1'
    unfold lcS at e2
    rw [List.getElem?_append_right (by omega), List.getElem?_map] at e1'
    rw [List.getElem?_append_right (by simpa using hi), List.getElem?_map, List.length_replicate] at e2
    cases q : fr[i - own.length]? with
    | none => rw [q] at e1'; cases e1'
    | some j =>
      rw [q] at e1' e2
      obtain ⟨y, hy, hyf⟩ := frOk_get L.fr (List.mem_of_getElem? q)
      have ex : y = x := by
        have := Option.some.inj e1'
        rw [← this]
        simp [List.getD, hy]
      subst ex
      have ev : σ[j]? = some (some v) := by
        have z : (σ[j]?).getD none = some v := Option.some.inj e2
        cases w : σ[j]? with
        | none => rw [w] at z; cases z
        | some o => rw [w] at z; exact congrArg some z
      have hm : (y, NameKind.free) ∈ sc.names := PySem.mem_of_lookup hyf
      have hk := L.free _ hm rfl
      have vis : Vis X.env.scope y := by
        rcases hk with z | z
        · exact .inr (.inl z)
        · exact .inr (.inr z)
      obtain ⟨m0, hn0, hl⟩ := I.loc
      obtain ⟨u, r, l⟩ := hl j y v hy ev vis
      refine ⟨u, r, .inr ⟨?_, ?_⟩⟩
      · exact relabel_lookup_free (env := X.env) hyf
      · obtain ⟨c, hc⟩ := c2 y hm
        rcases l with ⟨z, _⟩ | ⟨_, c', hc', hcell⟩
        · rcases hk with q | q
          · exact absurd (show X.env.kindOf y = some .local from z) (by rw [q]; decide)
          · exact absurd (show X.env.kindOf y = some .local from z) (by rw [q]; decide)
        · have : c = c' := Option.some.inj ((c1 _ _ hc).symm.trans hc')
          subst this
          obtain ⟨o, ho, hd⟩ := hcell
          exact ⟨c, hc, o, k _ _ ho, hd⟩
  · obtain ⟨v, o, ho, hd⟩ := I.cell x c (c1 _ _ e)
    exact ⟨v, o, k _ _ ho, hd⟩
  · have hp' : p ∈ X.pn ++ pins := by simpa [blk] using hp
    obtain ⟨a1, a2, a3, a4, a5⟩ := I.pin p hp'
    refine ⟨k _ _ a1, a2, Nat.ne_of_lt (Nat.lt_of_lt_of_le (Heap.lt_size a1) hC), fun q => ?_, a5⟩
    rcases List.mem_cons.mp (I.stkSub _ q) with e | e
    · exact a3 e
    · exact a4 e
  · show (lcS own.length fr σ).length = (lcN X own fr).length
    simp [lcS, lcN]
end
abbrev LcW := Nat → Nat → List V → St → Hp → Prop
def lcStep (J : It) (g : TG) (tt : TT) (te : TE) (W : LcW) (Fin : List V → Hp → Prop) : Prop := ∀ i m ys τ H, W i m ys τ H →
  (J.stop i H ∧ Fin ys H) ∨ (J.go i H ∧ ys.length < sizeLine ∧ ∀ x H', J.yld i H x H' → g x τ H' fun τ2 H2 => tt τ2 H2 fun b H3 =>
    if b = true then te τ2 H3 fun y H4 => ∃ m', m' < m ∧ W (i + 1) m' (ys ++ [y]) τ2 H4 else ∃ m', m' < m ∧ W (i + 1) m' ys τ2 H3)
section
variable {X : Cx} {pins : List (Addr × Obj)} {σ : St} {H : Hp} {s : Shared} {sc : Scope} {own : List Str} {fr : List Nat} {cl : List (Str × Addr)} {fp : List Addr} {it : Addr} {J : It} {tn : Nat → Heap → Prop} {g : TG} {tt : TT} {te : TE} {W : LcW} {Fin : List V → Hp → Prop}
  {elt tg iter : Expr} {ifs : List Expr} {pos : Pos} {E : Value → Shared → Prop}
theorem lc_core {RR : Value → Addr → Result → Shared → Prop} (hc : X.calm = true) (L : LcOk X sc own fr) (hcl1 : ∀ n c, cl.lookup n = some c → X.env.cells.lookup n = some c) (hcl2 : ∀ n, (n, NameKind.free) ∈ sc.names → ∃ c, cl.lookup n = some c)
    (hg : ∀ C s H ex pl, PG (blk X sc (lcN X own fr) cl C s H ex pl) tg g) (ht : ∀ C s H ex pl, PTs (blk X sc (lcN X own fr) cl C s H ex pl) ifs tt) (he : ∀ C s H ex pl, PE (blk X sc (lcN X own fr) cl C s H ex pl) elt te)
    (I : Inv X pins σ H s) (T : Turn X.prog X.w X.K tg J fp it tn) (st : tn 0 s.heap) (hf : ∀ b ∈ fp, FpOk X pins H b) (w0 : ∃ m, W 0 m [] (lcS own.length fr σ) H) (turn : lcStep J g tt te W Fin)
    (hRR : ∀ (D C : Addr) (s' : Shared) (H' : Hp) (ys : List V) (us : List Value) (n : Nat) (m : Str → Option Value), Inv X pins σ H' s' → s'.heap.get? D = some { cls := .type "list", data := .seq us.toArray n } → Vals ys us → ys.length ≤ sizeLine → H' D = none → H' C = none →
      s.heap.objs.size ≤ D → s.heap.objs.size ≤ C → D ≠ C → s'.heap.Ns C m → Fin ys H' → RR (.ref D) C (.ok .next) s') :
    wpAny (model X.prog X.w) X.A (newList []) (fun acc s₃ => wpAny (model X.prog X.w) X.A (newFunctionEnv sc X.env.globals cl [] X.env.qual none .none (some X.env)) (fun cenv s₄ =>
      codeAny (model X.prog X.w) X.A (.compStart (.ListComp elt [⟨tg, iter, ifs, 0⟩] sc pos) 0 (.ref it) acc { cenv with scope := relabel sc X.env }) (RR acc cenv.locals) s₄) E s₃) E s := by
  refine wpAny_newObj_type (wpAny_newFunctionEnv L.cell (by intro y hy; simp at hy) (fun h₁ hns₁ hsb₁ => ?_) L.kind)
  dsimp only at hns₁ hsb₁ ⊢
  generalize hH2 : s.heap.push { cls := .type "list", dict := none, data := .seq ([] : List Value).toArray } = H2 at hns₁ hsb₁ ⊢
  have hCs : H2.objs.size = s.heap.objs.size + 1 := by rw [← hH2, Heap.size_push]
  have hD0 : s.heap.objs.size ≠ H2.objs.size := by rw [hCs]; exact Nat.ne_of_lt (Nat.lt_succ_self _)
  have hCle : s.heap.objs.size ≤ H2.objs.size := by rw [hCs]; exact Nat.le_succ _
  have below : ∀ b, b < s.heap.objs.size → b ≠ H2.objs.size ∧ b ≠ s.heap.objs.size := fun b hb => ⟨by rw [hCs]; exact Nat.ne_of_lt (Nat.lt_succ_of_lt hb), Nat.ne_of_lt hb⟩
  have old : ∀ b o, s.heap.get? b = some o → h₁.get? b = some o := fun b o e => hsb₁.extBut b o (below b (Heap.lt_size e)).1 (Heap.get?_push_of_some _ (hH2 ▸ Heap.get?_push_of_some _ e))
  have hacc : h₁.get? s.heap.objs.size = some { cls := .type "list", data := .seq ([] : List Value).toArray 0 } := hsb₁.extBut _ _ hD0 (Heap.get?_push_of_some _ (hH2 ▸ Heap.get?_push_size _ rfl))
  have hfb : ∀ b ∈ fp, b < s.heap.objs.size := fun b hb => by
    obtain ⟨o, e, _⟩ := T.obj 0 _ st b hb
    exact Heap.lt_size e
  have I1 : Inv (blk X sc (lcN X own fr) cl H2.objs.size s H fp pins) [] (lcS own.length fr σ) H { s with heap := h₁, toks := s.toks + ([] : List (Str × Value)).length } := blk_inv L I hf hfb hCle hcl1 hcl2 hns₁ old
  have st1 : tn 0 h₁ := T.keep 0 _ _ st fun b _ o e => old b o e
  generalize hY : blk X sc (lcN X own fr) cl H2.objs.size s H fp pins = Y at I1
  have hYp : Y.prog = X.prog := by rw [← hY]; rfl
  have hYw : Y.w = X.w := by rw [← hY]; rfl
  have hYK : Y.K = X.K := by rw [← hY]; rfl
  have hYA : Y.A = X.A := by rw [← hY]; rfl
  have hYc : Y.calm = true := by rw [← hY]; exact hc
  have hYe : Y.env = compEnvC sc cl H2.objs.size X.env := by rw [← hY]; rfl
  have hYx : Y.xe = fun _ _ => False := by rw [← hY]; rfl
  have hYpn : Y.pn = X.pn ++ pins := by rw [← hY]; rfl
  have hYs : Y.s₀ = s := by rw [← hY]; rfl
  have hYH : Y.H₀ = H := by rw [← hY]; rfl
  have hYex : Y.ex = fp := by rw [← hY]; rfl
  have hYfs : Y.fs = frs X.stack := by rw [← hY]; rfl
  have gY := hg H2.objs.size s H fp pins
  have tY := ht H2.objs.size s H fp pins
  have eY := he H2.objs.size s H fp pins
  rw [hY] at gY tY eY
  have D_pin : ∀ p ∈ Y.pn ++ ([] : List (Addr × Obj)), p.1 ≠ s.heap.objs.size := fun p hp => by
    rw [hYpn, List.append_nil] at hp
    exact (below _ (Heap.lt_size (I.pin p hp).1)).2
  have D_cell : ∀ x c, Y.env.cells.lookup x = some c → c ≠ s.heap.objs.size := fun x c e => by
    rw [hYe] at e
    obtain ⟨v, z⟩ := I.cell x c (hcl1 _ _ e)
    exact (below _ z.lt).2
  have D_loc : s.heap.objs.size ≠ Y.env.locals := by rw [hYe]; exact hD0
  have D_fs : s.heap.objs.size ∉ Y.fs := by
    rw [hYfs]
    intro z
    rcases List.mem_cons.mp (I.stkSub _ z) with e | e
    · exact absurd I.lt (by rw [← e]; exact Nat.lt_irrefl _)
    · exact I.nofs (Nat.le_refl _) e
  have fpY : ∀ {H' : Hp} (pl : List (Addr × Obj)), (∀ b ∈ fp, H' b = none) → (∀ p ∈ pl, p.1 = s.heap.objs.size) → ∀ b ∈ fp, FpOk Y pl H' b := fun {H'} pl hn hp b hb => by
    obtain ⟨_, f1, f2, f3, f4, f5⟩ := hf b hb
    refine ⟨hn b hb, by rw [hYe]; exact (below b (hfb b hb)).1, ?_, .inl (by rw [hYex]; exact hb), fun x c e => ?_, fun p q => ?_⟩
    · rw [hYfs]
      intro z
      rcases List.mem_cons.mp (I.stkSub _ z) with e | e
      · exact f1 e
      · exact f2 e
    · rw [hYe] at e
      exact f4 x c (hcl1 _ _ e)
    · rcases List.mem_append.mp q with z | z
      · rw [hYpn] at z
        exact f5 p z
      · rw [hp p z]
        exact Ne.symm (below b (hfb b hb)).2
  have loop : ∀ s₃ : Shared, s₃ = { s with heap := h₁, toks := s.toks + ([] : List (Str × Value)).length } →
      codeAny (model X.prog X.w) X.A (.compLoop (.ListComp elt [⟨tg, iter, ifs, 0⟩] sc pos) 0 (.ref it) (.ref s.heap.objs.size) (compEnvC sc cl H2.objs.size X.env)) (RR (.ref s.heap.objs.size) H2.objs.size) s₃ := by
    rintro s₃ rfl
    obtain ⟨m0, w0⟩ := w0
    refine compLoop_own (fun n s' => ∃ i ys τ H' us k, Inv Y [] τ H' s' ∧ tn i s'.heap ∧ (∀ b ∈ fp, H' b = none) ∧ H' s.heap.objs.size = none ∧ s'.heap.get? s.heap.objs.size = some { cls := .type "list", data := .seq us.toArray k } ∧ Vals ys us ∧ ys.length ≤ sizeLine ∧ W i n ys τ H') ?_ m0
      ⟨0, [], _, H, [], 0, I1, st1, fun b hb => (hf b hb).1, I.hok.fresh (Nat.le_refl _), hacc, .nil, Nat.zero_le _, w0⟩
    rintro n s' ⟨i, ys, τ, H', us, k, I', st', hn', hD', ha', hv', hz', w'⟩
    have Ip : Inv Y [(s.heap.objs.size, { cls := .type "list", data := .seq us.toArray k })] τ H' s' := I'.pins_of fun p hp => by
      have e : p = (s.heap.objs.size, { cls := .type "list", data := .seq us.toArray k }) := by simpa using hp
      subst e
      exact ⟨ha', hD', D_loc, D_fs, fun v z => nomatch (show Data.seq _ _ = Data.cell v from z)⟩
    have onlyD : ∀ p ∈ [((s.heap.objs.size, { cls := .type "list", data := .seq us.toArray k }) : Addr × Obj)], p.1 = s.heap.objs.size := fun p hp => by
      have e : p = (s.heap.objs.size, { cls := .type "list", data := .seq us.toArray k }) := by simpa using hp
      subst e
      rfl
    rcases turn i n ys τ H' w' with ⟨stop, fin⟩ | ⟨go, hlen, step⟩
    · have q := T.done Y hYp hYw hYK hYc i _ s' τ H' (fun _ _ => False) Ip (fpY _ hn' onlyD) st' stop
      rw [hYA] at q
      refine thn q fun r s4 hq23 => ?_
      obtain ⟨hr, I4⟩ := hq23
      subst hr
      have un : Un (frs X.stack) fp H H' s.heap s4.heap := by
        have z := I4.base
        rw [hYfs, hYex, hYH, hYs] at z
        exact z
      have os4 : s4.os = s.os := by
        have z := I4.os
        rw [hYs] at z
        exact z
      have hok4 : HOk X.prog X.w H' s4.heap := by
        have z := I4.hok
        rw [hYp, hYw] at z
        exact z
      have hch : ∀ b ∈ fp, (b ∈ X.ex ∨ X.s₀.heap.objs.size ≤ b) ∧ b ≠ X.env.locals ∧ (∀ x c, X.env.cells.lookup x = some c → c ≠ b) ∧ ∀ p ∈ X.pn ++ pins, p.1 ≠ b := fun b hb => by
        obtain ⟨_, f1, f2, f3, f4, f5⟩ := hf b hb
        exact ⟨f3, f1, f4, f5⟩
      have IX : Inv X pins σ H' s4 := I.call' os4 un hok4 I4.bare hch
      obtain ⟨mC, hmC, _⟩ := I4.loc
      have hCf := I4.free
      rw [hYe] at hmC hCf
      have pD := I4.pin (s.heap.objs.size, { cls := .type "list", data := .seq us.toArray k }) (List.mem_append_right _ (List.mem_singleton.mpr rfl))
      exact hRR _ _ s4 H' ys us k mC IX pD.1 hv' hz' pD.2.1 hCf (Nat.le_refl _) hCle hD0 hmC fin
    · have q := T.item Y hYp hYw hYK hYc i _ s' τ H' (fun _ _ => False) Ip (fpY _ hn' onlyD) st' go
      rw [hYA] at q
      refine thn q fun r s4 hq24 => ?_
      obtain ⟨u, hr, h4⟩ := hq24
      subst hr
      refine thn h4 fun _ s5 hq25 => ?_
      obtain ⟨x, H5, I5, r5, y5, st5, fr5⟩ := hq25
      have I5' := I5.pinned (fpY _ fr5 onlyD) (T.obj _ _ st5)
      have g5 := gY _ s5 τ H5 x u _ I5' r5 (step x H5 y5)
      rw [hYp, hYw, hYA, hYe, hYx] at g5
      refine thn g5 fun _ s6 hq26 => ?_
      obtain ⟨σ6, H6, I6, q6⟩ := hq26
      have t6 := tY _ s6 σ6 H6 _ I6 q6
      rw [hYp, hYw, hYA, hYe, hYx] at t6
      refine thn t6 fun ok s7 hq27 => ?_
      obtain ⟨H7, I7, q7⟩ := hq27
      -- what the pins say behind the turn
      have keepD : ∀ {σ8 : St} {H8 : Hp} {s8 : Shared}, Inv Y ([(s.heap.objs.size, { cls := .type "list", data := .seq us.toArray k })] ++ pinsAt fp s5.heap) σ8 H8 s8 → s8.heap.get? s.heap.objs.size = some { cls := .type "list", data := .seq us.toArray k } ∧ H8 s.heap.objs.size = none :=
        fun {σ8 H8 s8} I8 => by
          have pD := I8.pin (s.heap.objs.size, { cls := .type "list", data := .seq us.toArray k }) (List.mem_append_right _ (List.mem_append_left _ (List.mem_singleton.mpr rfl)))
          exact ⟨pD.1, pD.2.1⟩
      have keepI : ∀ {σ8 : St} {H8 : Hp} {s8 : Shared}, Inv Y ([(s.heap.objs.size, { cls := .type "list", data := .seq us.toArray k })] ++ pinsAt fp s5.heap) σ8 H8 s8 → tn (i + 1) s8.heap ∧ ∀ b ∈ fp, H8 b = none :=
        fun {σ8 H8 s8} I8 => by
          refine ⟨T.keep _ _ _ st5 fun b hb o e => (I8.pin (b, o) (List.mem_append_right _ (List.mem_append_right _ (mem_pinsAt hb e)))).1, fun b hb => ?_⟩
          obtain ⟨o, e, d⟩ := T.obj _ _ st5 b hb
          exact (I8.pin (b, o) (List.mem_append_right _ (List.mem_append_right _ (mem_pinsAt hb e)))).2.1
      cases ok with
      | false =>
        rw [if_neg Bool.false_ne_true] at q7 ⊢
        obtain ⟨m', hm', w7⟩ := q7
        obtain ⟨a7, b7⟩ := keepD I7
        obtain ⟨c7, d7⟩ := keepI I7
        exact ⟨m', hm', i + 1, ys, σ6, H7, us, k, I7.pins_of (fun p hp => (nomatch hp)), c7, d7, b7, a7, hv', hz', w7⟩
      | true =>
        rw [if_pos rfl] at q7 ⊢
        have e7 := eY _ s7 σ6 H7 _ I7 q7
        rw [hYp, hYw, hYA, hYe, hYx] at e7
        refine thn e7 fun v s8 hq28 => ?_
        obtain ⟨y, H8, I8, r8, m', hm', w8⟩ := hq28
        obtain ⟨a8, b8⟩ := keepD I8
        obtain ⟨c8, d8⟩ := keepI I8
        have hl := hv'.length
        refine call_meets F.slot_list_append ⟨_, a8, rfl⟩ F.entry_list_append (F.args_list_append_2 _ _) (PySem.list_append s.heap.objs.size us.toArray k v (by rw [List.size_toArray]; omega)) ⟨a8, ?_⟩
        have qu := PySem.IsL.update a8 (fun xs => xs.push v)
        have I9 := (I8.pins_of (pins' := []) fun p hp => nomatch hp).turned (it := s.heap.objs.size) (t' := s8.toks) (h' := s8.heap.update s.heap.objs.size (Obj.mapSeq fun xs => xs.push v)) (fun b o hb e => (Heap.get?_update_other s8.heap _ (Ne.symm hb)).trans e) b8 D_loc (.inr (by rw [hYs]; exact Nat.le_refl _)) D_cell D_pin
        have ep : us.toArray.push v = (us ++ [v]).toArray := by simp
        rw [ep] at qu
        refine ⟨m', hm', i + 1, ys ++ [y], σ6, H8, us ++ [v], (if (us ++ [v]).toArray.size == us.toArray.size then k else k + 1), I9, T.keep _ _ _ c8 fun b hb o e => (Heap.get?_update_other s8.heap _ (Ne.symm (below b (hfb b hb)).2)).trans e, d8, b8, ?_, hv'.append (.cons r8 .nil), ?_, w8⟩
        · exact qu
        · rw [List.length_append, List.length_singleton]; omega
  exact codeAny_compStart_list (loop _ rfl) (T.self _ 0 _ _ _ st1 (loop _ rfl))
def tLC (wi : TI) (g : TG) (tt : TT) (te : TE) (k : Nat) (fr : List Nat) : TE := fun σ H Q => wi σ H fun J H1 => ∃ W : LcW, (∃ m, W 0 m [] (lcS k fr σ) H1) ∧ lcStep J g tt te W fun ys H2 => ∀ p, H2 p = none → Q (.ref p) (upd H2 p (.lst ys))
theorem lc_closure (L : LcOk X sc own fr) (ok : X.Ok) : ∃ cl, closureFor sc X.env = pure cl ∧ (∀ n c, cl.lookup n = some c → X.env.cells.lookup n = some c) ∧ (∀ n, (n, NameKind.free) ∈ sc.names → ∃ c, cl.lookup n = some c) :=
  closure_some fun x hx hf => ok.has x.1 (L.free x hx hf)
theorem pe_lc {wi : TI} (hc : X.calm = true) (L : LcOk X sc own fr) (hi : PI X tg iter wi)
    (hg : ∀ cl C s H ex pl, PG (blk X sc (lcN X own fr) cl C s H ex pl) tg g) (ht : ∀ cl C s H ex pl, PTs (blk X sc (lcN X own fr) cl C s H ex pl) ifs tt) (he : ∀ cl C s H ex pl, PE (blk X sc (lcN X own fr) cl C s H ex pl) elt te)
    (hs : ∀ x, foldedSetIterable iter X.env x = pure x := by intro _; rfl) : PE X (.ListComp elt [⟨tg, iter, ifs, 0⟩] sc pos) (tLC wi g tt te own.length fr) := by
  intro pins s σ H Q I h
  obtain ⟨cl, hcl, c1, c2⟩ := lc_closure L I.ok
  rw [eval_ListComp]
  refine wpAny_comprehension_free (use := none) (g := ⟨tg, iter, ifs, 0⟩) (gs := []) rfl hs hcl L.kind L.names ?_
  refine thn (hi pins s σ H _ I h) fun v s1 h1 => thn h1 fun itv s2 h2 => ?_
  obtain ⟨it, fp, tn, J, H2, e, I2, T, st2, f2, W, w0, turn⟩ := h2
  subst e
  refine lc_core (cl := cl) hc L c1 c2 (hg cl) (ht cl) (he cl) I2 T st2 f2 w0 turn fun D C s' H' ys us n m I' a' hv hz hD hC dD dC hDC hns fin => ?_
  refine ⟨m, hns, fun h' sb => ?_⟩
  have far : ∀ b, s2.heap.objs.size ≤ b → (X.s₀.heap.objs.size ≤ b) ∧ b ≠ X.env.locals ∧ (∀ x c, X.env.cells.lookup x = some c → c ≠ b) ∧ ∀ p ∈ X.pn ++ pins, p.1 ≠ b := fun b hb => by
    obtain ⟨_, f1, _, f3, f4, f5⟩ := I2.fpOk (H' := fun _ => none) hb rfl
    refine ⟨Nat.le_trans I2.sz hb, f1, f4, f5⟩
  obtain ⟨z1, z2, z3, z4⟩ := far C dC
  obtain ⟨y1, y2, y3, y4⟩ := far D dD
  have I3 : Inv X pins σ H' { s' with heap := h' } := I'.turned (t' := s'.toks) (fun b o hb e => sb.extBut b o hb e) hC z2 (.inr z1) z3 z4
  exact ⟨.ref D, _, I3.track (sb.extBut _ _ hDC a') hD hv hz y1 y2 y3 y4, rfl, fin D hD⟩
theorem ps_setLC {wi : TI} {i : Nat} {x : Str} {pos' spos : Pos} (hN : X.N.Nodup) (hi' : X.N[i]? = some x) (hx : Loc X.env.scope x) (hc : X.calm = true) (L : LcOk X sc own fr) (hi : PI X tg iter wi)
    (hg : ∀ cl C s H ex pl, PG (blk X sc (lcN X own fr) cl C s H ex pl) tg g) (ht : ∀ cl C s H ex pl, PTs (blk X sc (lcN X own fr) cl C s H ex pl) ifs tt) (he : ∀ cl C s H ex pl, PE (blk X sc (lcN X own fr) cl C s H ex pl) elt te)
    (hsw : swapsWith (.ListComp elt [⟨tg, iter, ifs, 0⟩] sc pos) (some (.Name x pos')) spos.line X.env = pure true := by rfl)
    (hs : ∀ x, foldedSetIterable iter X.env x = pure x := by intro _; rfl) (hf : X.fn x = true ∨ X.env.scope.names.lookup x = some .local := by first | exact .inl rfl | exact .inr rfl | assumption) :
    PS X (.Assign [.Name x pos'] (.ListComp elt [⟨tg, iter, ifs, 0⟩] sc pos) spos) (tAsg (tLC wi g tt te own.length fr) (gName i)) := by
  intro pins s σ H D' I h
  obtain ⟨cl, hcl, c1, c2⟩ := lc_closure L I.ok
  rw [exec_Assign_Name_used _ _ _ _ hsw]
  refine wpAny_bind (wpAny_standAt (wpAny_bind ?_))
  show wpAny _ _ (evalThenUse (.ListComp elt [⟨tg, iter, ifs, 0⟩] sc pos) X.env (assign (.Name x pos') X.env)) _ _ _
  unfold evalThenUse
  refine wpAny_bind ?_
  refine wpAny_comprehension_free (use := some (assign (.Name x pos') X.env)) (g := ⟨tg, iter, ifs, 0⟩) (gs := []) rfl hs hcl L.kind L.names ?_
  refine thn (hi pins s σ H _ I h) fun v s1 h1 => thn h1 fun itv s2 h2 => ?_
  obtain ⟨it, fp, tn, J, H2, e, I2, T, st2, f2, W, w0, turn⟩ := h2
  subst e
  refine lc_core (cl := cl) hc L c1 c2 (hg cl) (ht cl) (he cl) I2 T st2 f2 w0 turn fun D C s' H' ys us n m I' a' hv hz hD hC dD dC hDC hns fin => ?_
  have far : ∀ b, s2.heap.objs.size ≤ b → (X.s₀.heap.objs.size ≤ b) ∧ b ≠ X.env.locals ∧ (∀ x c, X.env.cells.lookup x = some c → c ≠ b) ∧ (b ∉ X.fs) ∧ ∀ p ∈ X.pn ++ pins, p.1 ≠ b := fun b hb => by
    obtain ⟨_, f1, f2, f3, f4, f5⟩ := I2.fpOk (H' := fun _ => none) hb rfl
    refine ⟨Nat.le_trans I2.sz hb, f1, f4, f2, f5⟩
  obtain ⟨z1, z2, z3, z0, z4⟩ := far C dC
  obtain ⟨y1, y2, y3, _, y4⟩ := far D dD
  have I3 := I'.track a' hD hv hz y1 y2 y3 y4
  obtain ⟨oC, hoC, nsC⟩ : ∃ o, s'.heap.get? C = some o ∧ ∃ es ep, o.data = .dict es ep := by
    obtain ⟨o, es, ep, e1, e2, _⟩ := hns
    exact ⟨o, e1, es, ep, e2⟩
  have hCt : (upd H' D (.lst ys)) C = none := by rw [upd_ne (Ne.symm hDC)]; exact hC
  have I4 : Inv X (pins ++ [(C, oC)]) σ (upd H' D (.lst ys)) s' := I3.pins_of fun p hp => by
    rcases List.mem_append.mp hp with z | z
    · exact I3.pin p (List.mem_append_right _ z)
    · have e : p = (C, oC) := by simpa using z
      subst e
      obtain ⟨es, ep, hd⟩ := nsC
      exact ⟨hoC, hCt, z2, z0, fun v z => by have z' : oC.data = .cell v := z; rw [hd] at z'; cases z'⟩
  refine thn (pg_name (pos := pos') hN hi' hx hf _ s' σ _ (.ref D) (.ref D) _ I4 rfl (fin D hD)) fun _ s5 hq29 => ?_
  obtain ⟨σ5, H5, I5, q5⟩ := hq29
  have pC := I5.pin (C, oC) (List.mem_append_right _ (List.mem_append_right _ (List.mem_singleton.mpr rfl)))
  obtain ⟨o, es, ep, e1, e2, e3⟩ := hns
  rw [hoC] at e1
  cases e1
  refine ⟨m, ⟨oC, es, ep, pC.1, e2, e3⟩, fun h' sb => ?_⟩
  have I6 : Inv X pins σ5 H5 { s5 with heap := h' } := (I5.unpinned).turned (t' := s5.toks) (fun b o hb e => sb.extBut b o hb e) pC.2.1 z2 (.inr z1) z3 z4
  exact wpAny_pure (wpAny_pure ⟨σ5, H5, I6, q5⟩)
end
end L2
set_option Elab.async false
set_option linter.all false
set_option maxRecDepth 100000
set_option maxHeartbeats 4000000
namespace D
open PySem PySem.Spec PyProof.Rows L2
abbrev St := L2.St

structure Kp (H H' : Hp) : Prop where
  tup : ∀ b xs, H b = some (.tup xs) → H' b = some (.tup xs)
  frz : ∀ b o u, H b = some (.frz o u) → H' b = some (.frz o u)
theorem Kp.refl (H : Hp) : Kp H H := ⟨fun _ _ e => e, fun _ _ _ e => e⟩
theorem Kp.trans {H H1 H2 : Hp} (a : Kp H H1) (b : Kp H1 H2) : Kp H H2 := ⟨fun c xs e => b.tup c xs (a.tup c xs e), fun c o u e => b.frz c o u (a.frz c o u e)⟩
theorem Kp.new {H : Hp} {p : Addr} {o : HO} (h : H p = none) : Kp H (upd H p o) := ⟨fun b xs e => by rw [upd_ne (ne_of_none e h)]; exact e, fun b ob u e => by rw [upd_ne (ne_of_none e h)]; exact e⟩
theorem Kp.set {H : Hp} {p : Addr} {o u : HO} (h : H p = some u) (ht : ∀ xs, u ≠ .tup xs) (hf : ∀ ob v, u ≠ .frz ob v) : Kp H (upd H p o) :=
  ⟨fun b xs e => by rw [upd_ne (ne_of e h fun z => ht _ z.symm)]; exact e, fun b ob v e => by rw [upd_ne (ne_of e h fun z => hf _ _ z.symm)]; exact e⟩
theorem Kp.un {fs ex : List Addr} {H H' : Hp} {h h' : Heap} (u : Un fs ex H H' h h') : Kp H H' := ⟨u.tups, u.frzs⟩

def SqF (K : PySem.W.Frag) (H : Hp) (a : Addr) (xs : List V) : Prop :=
  (∃ o, H a = some (.frz o (.lst xs))) ∨ ∃ (o : Obj) (its : Array Value) (n : Nat), K.lookup a = some o ∧ o.cls = .type "list" ∧ o.dict = none ∧ o.data = .seq its n ∧ its.size ≤ sizeLine ∧ Vals xs its.toList
theorem SqF.sq {K : PySem.W.Frag} {H : Hp} {a : Addr} {xs : List V} (h : SqF K H a xs) : SqL K H a xs := by
  rcases h with h | h
  · exact .inl (.inr h)
  · exact .inr h
theorem SqF.keep {K : PySem.W.Frag} {H H' : Hp} {a : Addr} {xs : List V} (k : Kp H H') (h : SqF K H a xs) : SqF K H' a xs := by
  rcases h with ⟨o, h⟩ | h
  · exact .inl ⟨o, k.frz _ _ _ h⟩
  · exact .inr h
theorem SqT.keep {K : PySem.W.Frag} {H H' : Hp} {a : Addr} {xs : List V} (k : Kp H H') (h : SqT K H a xs) : SqT K H' a xs := by
  rcases h with (h | ⟨o, h⟩) | h
  · exact .inl (.inl (k.tup _ _ h))
  · exact .inl (.inr ⟨o, k.frz _ _ _ h⟩)
  · exact .inr h
def keyD : Key → PyData
  | .inl i => .int i
  | .inr x => .str x

mutual
def RepD (K : PySem.W.Frag) (H : Hp) : PyData → V → Prop
  | .none, v => v = .non
  | .bool b, v => v = .bl b
  | .int i, v => v = .int i
  | .str x, v => v = .str x
  | .list ds, v => ∃ a vs, v = .ref a ∧ SqF K H a vs ∧ RepA K H ds vs
  | .tuple ds, v => ∃ a vs, v = .ref a ∧ SqT K H a vs ∧ RepA K H ds vs
  | .dict kvs, v => ∃ a o l, v = .ref a ∧ H a = some (.frz o (.dK l)) ∧ RepK K H kvs l
def RepA (K : PySem.W.Frag) (H : Hp) : List PyData → List V → Prop
  | [], vs => vs = []
  | d :: ds, vs => ∃ v r, vs = v :: r ∧ RepD K H d v ∧ RepA K H ds r
def RepK (K : PySem.W.Frag) (H : Hp) : List (PyData × PyData) → List (Key × V) → Prop
  | [], l => l = []
  | (k, d) :: ds, l => ∃ key v r, l = (key, v) :: r ∧ k = keyD key ∧ RepD K H d v ∧ RepK K H ds r
end
mutual
theorem RepD.keep {K : PySem.W.Frag} {H H' : Hp} (k : Kp H H') : ∀ {d : PyData} {v : V}, RepD K H d v → RepD K H' d v
  | .none, v, h => by simp only [RepD] at h ⊢; exact h
  | .bool b, v, h => by simp only [RepD] at h ⊢; exact h
  | .int i, v, h => by simp only [RepD] at h ⊢; exact h
  | .str x, v, h => by simp only [RepD] at h ⊢; exact h
  | .list ds, v, h => by
    simp only [RepD] at h ⊢
    obtain ⟨a, vs, e, s, r⟩ := h
    exact ⟨a, vs, e, s.keep k, RepA.keep k r⟩
  | .tuple ds, v, h => by
    simp only [RepD] at h ⊢
    obtain ⟨a, vs, e, s, r⟩ := h
    exact ⟨a, vs, e, SqT.keep k s, RepA.keep k r⟩
  | .dict kvs, v, h => by
    simp only [RepD] at h ⊢
    obtain ⟨a, o, l, e, s, r⟩ := h
    exact ⟨a, o, l, e, k.frz _ _ _ s, RepK.keep k r⟩
theorem RepA.keep {K : PySem.W.Frag} {H H' : Hp} (k : Kp H H') : ∀ {ds : List PyData} {vs : List V}, RepA K H ds vs → RepA K H' ds vs
  | [], vs, h => by simp only [RepA] at h ⊢; exact h
  | d :: ds, vs, h => by
    simp only [RepA] at h ⊢
    obtain ⟨v, r, e, h1, h2⟩ := h
    exact ⟨v, r, e, RepD.keep k h1, RepA.keep k h2⟩
theorem RepK.keep {K : PySem.W.Frag} {H H' : Hp} (k : Kp H H') : ∀ {ds : List (PyData × PyData)} {l : List (Key × V)}, RepK K H ds l → RepK K H' ds l
  | [], l, h => by simp only [RepK] at h ⊢; exact h
  | (key, d) :: ds, l, h => by
    simp only [RepK] at h ⊢
    obtain ⟨k', v, r, e, ek, h1, h2⟩ := h
    exact ⟨k', v, r, e, ek, RepD.keep k h1, RepK.keep k h2⟩
end
theorem RepA.length {K : PySem.W.Frag} {H : Hp} : ∀ {ds : List PyData} {vs : List V}, RepA K H ds vs → vs.length = ds.length
  | [], vs, h => by simp only [RepA] at h; rw [h]; rfl
  | d :: ds, vs, h => by
    simp only [RepA] at h
    obtain ⟨v, r, e, _, h2⟩ := h
    rw [e, List.length_cons, List.length_cons, RepA.length h2]
theorem RepA.get {K : PySem.W.Frag} {H : Hp} : ∀ {ds : List PyData} {vs : List V} {i : Nat} {d : PyData}, RepA K H ds vs → ds[i]? = some d → ∃ v, vs[i]? = some v ∧ RepD K H d v
  | [], _, _, _, _, e => by simp at e
  | d :: ds, vs, 0, d', h, e => by
    simp only [RepA] at h
    obtain ⟨v, r, ev, h1, _⟩ := h
    simp at e
    subst e
    exact ⟨v, by rw [ev]; rfl, h1⟩
  | d :: ds, vs, i + 1, d', h, e => by
    simp only [RepA] at h
    obtain ⟨v, r, ev, _, h2⟩ := h
    obtain ⟨v', e1, e2⟩ := RepA.get (i := i) h2 (by simpa using e)
    exact ⟨v', by rw [ev]; simpa using e1, e2⟩
theorem RepA.get' {K : PySem.W.Frag} {H : Hp} {ds : List PyData} {vs : List V} {i : Nat} {v : V} (h : RepA K H ds vs) (e : vs[i]? = some v) : ∃ d, ds[i]? = some d ∧ RepD K H d v := by
  have hi : i < ds.length := by
    have := (List.getElem?_eq_some_iff.mp e).1
    rw [h.length] at this
    exact this
  obtain ⟨v', e1, r⟩ := h.get (i := i) (d := ds[i]) (by simp [hi])
  rw [e] at e1
  cases e1
  exact ⟨ds[i], by simp [hi], r⟩
theorem RepA.ints {K : PySem.W.Frag} {H : Hp} : ∀ (ns : List Int), RepA K H (ns.map PyData.int) (ns.map V.int)
  | [] => by simp [RepA]
  | n :: ns => by
    simp only [List.map_cons, RepA]
    exact ⟨_, _, rfl, by simp [RepD], RepA.ints ns⟩
theorem RepA.append {K : PySem.W.Frag} {H : Hp} : ∀ {ds es : List PyData} {vs us : List V}, RepA K H ds vs → RepA K H es us → RepA K H (ds ++ es) (vs ++ us)
  | [], es, vs, us, h, q => by simp only [RepA] at h; subst h; exact q
  | d :: ds, es, vs, us, h, q => by
    simp only [RepA] at h
    obtain ⟨v, r, e, h1, h2⟩ := h
    subst e
    simp only [List.cons_append, RepA]
    exact ⟨v, r ++ us, rfl, h1, RepA.append h2 q⟩
theorem RepA.drop {K : PySem.W.Frag} {H : Hp} : ∀ {ds : List PyData} {vs : List V} (n : Nat), RepA K H ds vs → RepA K H (ds.drop n) (vs.drop n)
  | ds, vs, 0, h => by simpa using h
  | [], vs, n + 1, h => by simp only [RepA] at h; subst h; simp [RepA]
  | d :: ds, vs, n + 1, h => by
    simp only [RepA] at h
    obtain ⟨v, r, e, _, h2⟩ := h
    subst e
    simpa using RepA.drop n h2
theorem RepA.take {K : PySem.W.Frag} {H : Hp} : ∀ {ds : List PyData} {vs : List V} (n : Nat), RepA K H ds vs → RepA K H (ds.take n) (vs.take n)
  | ds, vs, 0, h => by simp [RepA]
  | [], vs, n + 1, h => by simp only [RepA] at h; subst h; simp [RepA]
  | d :: ds, vs, n + 1, h => by
    simp only [RepA] at h
    obtain ⟨v, r, e, h1, h2⟩ := h
    subst e
    simp only [List.take_succ_cons, RepA]
    exact ⟨v, _, rfl, h1, RepA.take n h2⟩

inductive W where
  | d (x : PyData)
  | m (a : Addr)
  | t (n : String)
inductive MO where
  | lst (ws : List W)
  | dic (kvs : List (Key × W))
  | dct (kvs : List (List Key × W))
  | fdic (kvs : List (Key × W))
  | ins (C : Addr) (fs : List (Str × W))
  | tup (ws : List W)
  | flst (ws : List W)
  | exc (C : Addr) (fs : List (Str × W))
abbrev MH := Addr → Option MO
def updM (M : MH) (a : Addr) (o : MO) : MH := fun b => if b = a then some o else M b
theorem updM_same {M : MH} {a : Addr} {o : MO} : updM M a o a = some o := if_pos rfl
theorem updM_ne {M : MH} {a b : Addr} {o : MO} (h : b ≠ a) : updM M a o b = M b := if_neg h
theorem updM_updM {M : MH} {a : Addr} {o u : MO} : updM (updM M a o) a u = updM M a u := by funext b; unfold updM; split <;> rfl
abbrev DS := List (Option W)
def RepW (K : PySem.W.Frag) (H : Hp) : W → V → Prop
  | .d x, v => RepD K H x v
  | .m a, v => v = .ref a
  | .t n, v => v = .ty n
theorem RepW.keep {K : PySem.W.Frag} {H H' : Hp} (k : Kp H H') : ∀ {w : W} {v : V}, RepW K H w v → RepW K H' w v
  | .d _, _, h => RepD.keep k h
  | .m _, _, h => h
  | .t _, _, h => h
def RepWs (K : PySem.W.Frag) (H : Hp) : List W → List V → Prop := Paired (RepW K H)
theorem RepWs.keep {K : PySem.W.Frag} {H H' : Hp} (k : Kp H H') {ws : List W} {vs : List V} (h : RepWs K H ws vs) : RepWs K H' ws vs := Paired.mapP h fun _ _ r => r.keep k
theorem RepWs.length {K : PySem.W.Frag} {H : Hp} {ws : List W} {vs : List V} (h : RepWs K H ws vs) : ws.length = vs.length := Paired.length h
theorem RepWs.get {K : PySem.W.Frag} {H : Hp} : ∀ {ws : List W} {vs : List V} {i : Nat} {w : W}, RepWs K H ws vs → ws[i]? = some w → ∃ v, vs[i]? = some v ∧ RepW K H w v
  | _, _, _, _, .nil, e => by simp at e
  | _, _, 0, _, .cons r _, e => by simp at e; subst e; exact ⟨_, rfl, r⟩
  | _, _, i + 1, _, .cons _ t, e => by
    obtain ⟨u, h1, h2⟩ := RepWs.get (i := i) t (by simpa using e)
    exact ⟨u, by simpa using h1, h2⟩
theorem RepWs.set {K : PySem.W.Frag} {H : Hp} {w : W} {v : V} (r : RepW K H w v) : ∀ {ws : List W} {vs : List V} (i : Nat), RepWs K H ws vs → RepWs K H (ws.set i w) (vs.set i v)
  | _, _, _, .nil => .nil
  | _, _, 0, .cons _ t => .cons r t
  | _, _, i + 1, .cons q t => .cons q (RepWs.set r i t)
theorem RepWs.append {K : PySem.W.Frag} {H : Hp} : ∀ {ws ws' : List W} {vs vs' : List V}, RepWs K H ws vs → RepWs K H ws' vs' → RepWs K H (ws ++ ws') (vs ++ vs')
  | _, _, _, _, .nil, s => s
  | _, _, _, _, .cons r t, s => .cons r (RepWs.append t s)
theorem RepWs.data {K : PySem.W.Frag} {H : Hp} : ∀ {ds : List PyData} {vs : List V}, RepWs K H (ds.map W.d) vs → RepA K H ds vs
  | [], _, h => by cases h; simp [RepA]
  | d :: ds, _, h => by
    cases h with
    | cons r t => simp only [RepA]; exact ⟨_, _, rfl, r, RepWs.data t⟩
theorem RepA.ws {K : PySem.W.Frag} {H : Hp} : ∀ {ds : List PyData} {vs : List V}, RepA K H ds vs → RepWs K H (ds.map W.d) vs
  | [], vs, h => by simp only [RepA] at h; subst h; exact .nil
  | d :: ds, vs, h => by
    simp only [RepA] at h
    obtain ⟨v, r, e, h1, h2⟩ := h
    subst e
    exact .cons h1 (RepA.ws h2)
def RepM (K : PySem.W.Frag) (H : Hp) (a : Addr) : MO → Prop
  | .lst ws => ∃ vs, H a = some (.lst vs) ∧ RepWs K H ws vs
  | .dic kvs => ∃ l, H a = some (.dK l) ∧ Paired (fun (p : Key × W) (q : Key × V) => p.1 = q.1 ∧ RepW K H p.2 q.2) kvs l
  | .fdic kvs => ∃ o l, H a = some (.frz o (.frz o (.dK l))) ∧ Paired (fun (p : Key × W) (q : Key × V) => p.1 = q.1 ∧ RepW K H p.2 q.2) kvs l
  | .dct kvs => ∃ l, H a = some (.dT l) ∧ Paired (fun (p : List Key × W) (q : List Key × V) => p.1 = q.1 ∧ RepW K H p.2 q.2) kvs l
  | .ins C fs => ∃ dx l, H a = some (.ins C dx l) ∧ Paired (fun (p : Str × W) (q : Str × V) => p.1 = q.1 ∧ RepW K H p.2 q.2) fs l
  | .tup ws => ∃ vs, H a = some (.tup vs) ∧ RepWs K H ws vs
  | .flst ws => ∃ o vs, H a = some (.frz o (.frz o (.lst vs))) ∧ RepWs K H ws vs
  | .exc C fs => ∃ φ dct, H a = some (.ext φ) ∧ (∀ h, φ h → ∃ vs, h.get? a = some { cls := .ref C, dict := dct, data := .fields vs }) ∧
      ((dct = none ∧ fs = []) ∨ ∃ dx o l, dct = some dx ∧ H dx = some (.frz o (.xd l)) ∧ Paired (fun (p : Str × W) (q : Str × V) => p.1 = q.1 ∧ RepW K H p.2 q.2) fs l)
def MAbs (K : PySem.W.Frag) (H : Hp) (M : MH) : Prop := ∀ a o, M a = some o → RepM K H a o
theorem RepM.is {K : PySem.W.Frag} {H : Hp} {a : Addr} {o : MO} (h : RepM K H a o) : ∃ u, H a = some u := by
  cases o with
  | lst ws => obtain ⟨vs, e, _⟩ := h; exact ⟨_, e⟩
  | dic kvs => obtain ⟨l, e, _⟩ := h; exact ⟨_, e⟩
  | dct kvs => obtain ⟨l, e, _⟩ := h; exact ⟨_, e⟩
  | fdic kvs => obtain ⟨o, l, e, _⟩ := h; exact ⟨_, e⟩
  | ins C fs => obtain ⟨dx, l, e, _⟩ := h; exact ⟨_, e⟩
  | tup ws => obtain ⟨vs, e, _⟩ := h; exact ⟨_, e⟩
  | flst ws => obtain ⟨o, vs, e, _⟩ := h; exact ⟨_, e⟩
  | exc C fs => obtain ⟨φ, dct, e, _⟩ := h; exact ⟨_, e⟩
theorem MAbs.free {K : PySem.W.Frag} {H : Hp} {M : MH} (h : MAbs K H M) {p : Addr} (e : H p = none) : M p = none := by
  cases q : M p with
  | none => rfl
  | some o =>
    obtain ⟨u, z⟩ := (h p o q).is
    rw [e] at z
    cases z
theorem RepM.keep {K : PySem.W.Frag} {H H' : Hp} {a : Addr} {o : MO} (k : Kp H H') (s : ∀ u, H a = some u → H' a = some u) (h : RepM K H a o) : RepM K H' a o := by
  cases o with
  | lst ws => obtain ⟨vs, e, r⟩ := h; exact ⟨vs, s _ e, r.keep k⟩
  | dic kvs => obtain ⟨l, e, r⟩ := h; exact ⟨l, s _ e, Paired.mapP r fun p q z => ⟨z.1, z.2.keep k⟩⟩
  | dct kvs => obtain ⟨l, e, r⟩ := h; exact ⟨l, s _ e, Paired.mapP r fun p q z => ⟨z.1, z.2.keep k⟩⟩
  | fdic kvs => obtain ⟨o, l, e, r⟩ := h; exact ⟨o, l, s _ e, Paired.mapP r fun p q z => ⟨z.1, z.2.keep k⟩⟩
  | ins C fs => obtain ⟨dx, l, e, r⟩ := h; exact ⟨dx, l, s _ e, Paired.mapP r fun p q z => ⟨z.1, z.2.keep k⟩⟩
  | tup ws => obtain ⟨vs, e, r⟩ := h; exact ⟨vs, s _ e, r.keep k⟩
  | flst ws => obtain ⟨o, vs, e, r⟩ := h; exact ⟨o, vs, s _ e, r.keep k⟩
  | exc C fs =>
    obtain ⟨φ, dct, e, p, r⟩ := h
    refine ⟨φ, dct, s _ e, p, ?_⟩
    rcases r with r | ⟨dx, o, l, e1, e2, r⟩
    · exact .inl r
    · exact .inr ⟨dx, o, l, e1, k.frz _ _ _ e2, Paired.mapP r fun p q z => ⟨z.1, z.2.keep k⟩⟩
theorem MAbs.new {K : PySem.W.Frag} {H : Hp} {M : MH} {p : Addr} {o : HO} (h : MAbs K H M) (e : H p = none) : MAbs K (upd H p o) M := fun a mo q =>
  (h a mo q).keep (Kp.new e) fun u z => by rw [upd_ne (ne_of_none z e)]; exact z
theorem MAbs.put {K : PySem.W.Frag} {H : Hp} {M : MH} {p : Addr} {o : HO} {mo : MO} (h : MAbs K H M) (k : Kp H (upd H p o)) (r : RepM K (upd H p o) p mo) : MAbs K (upd H p o) (updM M p mo) := fun a mo' q => by
  by_cases e : a = p
  · subst e
    rw [updM_same] at q
    cases q
    exact r
  · rw [updM_ne e] at q
    exact (h a mo' q).keep k fun u z => by rw [upd_ne e]; exact z
structure Abs (K : PySem.W.Frag) (H : Hp) (σ : St) (τ : DS) (M : MH) : Prop where
  len : σ.length = τ.length
  val : ∀ (i : Nat) w, τ[i]? = some (some w) → ∃ v, σ[i]? = some (some v) ∧ RepW K H w v
  mem : MAbs K H M
theorem Abs.go {K : PySem.W.Frag} {H H' : Hp} {σ : St} {τ : DS} {M M' : MH} (h : Abs K H σ τ M) (k : Kp H H') (m : MAbs K H' M') : Abs K H' σ τ M' :=
  ⟨h.len, fun i w e => let ⟨v, q, r⟩ := h.val i w e; ⟨v, q, r.keep k⟩, m⟩
theorem Abs.set {K : PySem.W.Frag} {H : Hp} {σ : St} {τ : DS} {M : MH} {w : W} {v : V} (h : Abs K H σ τ M) (i : Nat) (r : RepW K H w v) : Abs K H (σ.set i (some v)) (τ.set i (some w)) M := by
  refine ⟨by rw [List.length_set, List.length_set]; exact h.len, fun j w' e => ?_, h.mem⟩
  by_cases hj : i = j
  · subst hj
    have hl : i < τ.length := by
      have := (List.getElem?_eq_some_iff.mp e).1
      rwa [List.length_set] at this
    rw [List.getElem?_set_self hl] at e
    cases e
    exact ⟨v, List.getElem?_set_self (by rw [h.len]; exact hl), r⟩
  · rw [List.getElem?_set_ne hj] at e
    obtain ⟨v', q, r'⟩ := h.val j w' e
    exact ⟨v', by rw [List.getElem?_set_ne hj]; exact q, r'⟩

abbrev QD := W → MH → Prop
abbrev TD := DS → MH → QD → Prop
abbrev TTd := DS → MH → (Bool → MH → Prop) → Prop
abbrev TAd := DS → MH → (List W → MH → Prop) → Prop
structure Ed where
  nx : DS → MH → Prop
  rt : QD
  bk : DS → MH → Prop := fun _ _ => False
  ct : DS → MH → Prop := fun _ _ => False
abbrev TSd := Ed → DS → MH → Prop
def up (K : PySem.W.Frag) (t : TD) : TE := fun σ H Q => ∃ τ M Qd, Abs K H σ τ M ∧ t τ M Qd ∧ ∀ v H' w M', Kp H H' → RepW K H' w v → MAbs K H' M' → Qd w M' → Q v H'
def upT (K : PySem.W.Frag) (t : TTd) : TT := fun σ H Q => ∃ τ M Qd, Abs K H σ τ M ∧ t τ M Qd ∧ ∀ b H' M', Kp H H' → MAbs K H' M' → Qd b M' → Q b H'
def upA (K : PySem.W.Frag) (t : TAd) : TA := fun σ H Q => ∃ τ M Qd, Abs K H σ τ M ∧ t τ M Qd ∧ ∀ vs H' ws M', Kp H H' → RepWs K H' ws vs → MAbs K H' M' → Qd ws M' → Q vs H'
def upS (K : PySem.W.Frag) (t : TSd) : TS := fun D σ H => ∃ τ M Dd, Abs K H σ τ M ∧ t Dd τ M ∧
  (∀ σ' H' τ' M', Kp H H' → Abs K H' σ' τ' M' → Dd.nx τ' M' → D.nx σ' H') ∧ (∀ v H' w M', Kp H H' → RepW K H' w v → MAbs K H' M' → Dd.rt w M' → D.rt v H') ∧
  (∀ σ' H' τ' M', Kp H H' → Abs K H' σ' τ' M' → Dd.bk τ' M' → D.bk σ' H') ∧ (∀ σ' H' τ' M', Kp H H' → Abs K H' σ' τ' M' → Dd.ct τ' M' → D.ct σ' H')
section
variable {X : Cx}
abbrev PD (X : Cx) (e : Expr) (t : TD) : Prop := PE X e (up X.K t)
abbrev PTd (X : Cx) (e : Expr) (t : TTd) : Prop := PT X e (upT X.K t)
abbrev PAd (X : Cx) (es : List Expr) (t : TAd) : Prop := PA X es (upA X.K t)
abbrev PSd (X : Cx) (st : Stmt) (t : TSd) : Prop := PS X st (upS X.K t)
abbrev PSsd (X : Cx) (st : List Stmt) (t : TSd) : Prop := PSs X st (upS X.K t)
theorem pe_w {e : Expr} {t t' : TE} (h : PE X e t) (k : ∀ σ H Q, t' σ H Q → t σ H Q) : PE X e t' := fun pins s σ H Q I q => h pins s σ H Q I (k σ H Q q)
theorem pt_w {e : Expr} {t t' : TT} (h : PT X e t) (k : ∀ σ H Q, t' σ H Q → t σ H Q) : PT X e t' := fun pins s σ H Q I q => h pins s σ H Q I (k σ H Q q)
theorem pa_w {es : List Expr} {t t' : TA} (h : PA X es t) (k : ∀ σ H Q, t' σ H Q → t σ H Q) : PA X es t' := fun pos pins s σ H Q I q => h pos pins s σ H Q I (k σ H Q q)
theorem ps_w {st : Stmt} {t t' : TS} (h : PS X st t) (k : ∀ D σ H, t' D σ H → t D σ H) : PS X st t' := fun pins s σ H D I q => h pins s σ H D I (k D σ H q)
theorem pss_w {st : List Stmt} {t t' : TS} (h : PSs X st t) (k : ∀ D σ H, t' D σ H → t D σ H) : PSs X st t' := fun pins s σ H D I q => h pins s σ H D I (k D σ H q)
end
end D
set_option Elab.async false
set_option linter.all false
set_option maxRecDepth 100000
set_option maxHeartbeats 4000000
namespace D
open PySem PySem.Spec PyProof.Rows L2
section
variable {X : Cx} {pos : Pos} {a b c e : Expr} {ta tb tc te : TD} {K : PySem.W.Frag}
abbrev Kont (K : PySem.W.Frag) (H : Hp) (Qd : QD) (Q : VK) : Prop := ∀ v H' w M', Kp H H' → RepW K H' w v → MAbs K H' M' → Qd w M' → Q v H'
theorem kgo {H H1 : Hp} {Qd : QD} {Q : VK} (k : Kont K H Qd Q) (kp : Kp H H1) : Kont K H1 Qd Q := fun v H' w M' k2 r m q => k v H' w M' (kp.trans k2) r m q

def dVar (i : Nat) (τ : DS) (M : MH) (Q : QD) : Prop := ∃ w, τ[i]? = some (some w) ∧ Q w M
theorem pd_var {i : Nat} (h : PE X e (tVar i)) : PD X e (dVar i) := pe_w h fun σ H Q hq30 => by
  obtain ⟨τ, M, Qd, A, ⟨w, e, q⟩, k⟩ := hq30
  obtain ⟨v, e', r⟩ := A.val i w e
  exact ⟨v, e', k v H w M (Kp.refl H) r A.mem q⟩
theorem dv (i : Nat) {x : Str} {pos : Pos} (hN : X.N[i]? = some x := by rfl) (hv : Vis X.env.scope x := by first | exact Or.inl rfl | exact Or.inr (Or.inl rfl) | exact Or.inr (Or.inr rfl)) (hd : (x == ("__debug__" : Str)) = false := by decide)
    (hcd : (x == ("__classdict__" : Str)) = false := by decide) : PD X (.Name x pos) (dVar i) := pd_var (pe_var hN hv hd hcd)
def dC (w : W) (_ : DS) (M : MH) (Q : QD) : Prop := Q w M
theorem pd_c {v : V} {w : W} (h : PE X e (tC v)) (r : ∀ H, RepW X.K H w v) : PD X e (dC w) := pe_w h fun σ H Q ⟨τ, M, Qd, A, q, k⟩ => k v H w M (Kp.refl H) (r H) A.mem q
theorem pd_int {i j pos} : PD X (.Constant (.int i) j pos) (dC (.d (.int i))) := pd_c pe_int fun H => by simp [RepW, RepD]
theorem pd_bl {b j pos} : PD X (.Constant (.bool b) j pos) (dC (.d (.bool b))) := pd_c pe_bl fun H => by simp [RepW, RepD]
theorem pd_non {j pos} : PD X (.Constant .none j pos) (dC (.d .none)) := pd_c pe_non fun H => by simp [RepW, RepD]
theorem pd_str {x j pos} : PD X (.Constant (.str x) j pos) (dC (.d (.str x))) := pd_c pe_str fun H => by simp [RepW, RepD]
theorem pd_globI {x : Str} {i : Int} {t : Tok} {pos : Pos} (hg : Gl X x) (hm : X.mg x = some (.int i t)) (hd : (x == ("__debug__" : Str)) = false := by decide) : PD X (.Name x pos) (dC (.d (.int i))) := pd_c (pe_glob (v := .int i) hg hm ⟨t, rfl⟩ hd) fun H => by simp [RepW, RepD]
def OpD (K : PySem.W.Frag) (r : R2) (rd : W → W → MH → QD → Prop) : Prop := ∀ x y H w w' M Qd Q, RepW K H w x → RepW K H w' y → MAbs K H M → rd w w' M Qd → Kont K H Qd Q → r x y H Q
def dOp (rd : W → W → MH → QD → Prop) (ta tb : TD) (τ : DS) (M : MH) (Q : QD) : Prop := ta τ M fun w M1 => tb τ M1 fun w' M2 => rd w w' M2 Q
theorem imp_op {r : R2} {rd : W → W → MH → QD → Prop} (hd : OpD K r rd) {σ : St} {H : Hp} {Q : VK} (h : up K (dOp rd ta tb) σ H Q) : tOp r (up K ta) (up K tb) σ H Q := by
  obtain ⟨τ, M, Qd, A, h, k⟩ := h
  refine ⟨τ, M, _, A, h, fun x H1 w M1 kp r1 m1 q1 => ⟨τ, M1, _, A.go kp m1, q1, fun y H2 w' M2 kp2 r2 m2 q2 => ?_⟩⟩
  exact hd x y H2 w w' M2 Qd Q (r1.keep kp2) r2 m2 q2 (kgo k (kp.trans kp2))
theorem pd_op {op : Operator} {r : R2} {rd : W → W → MH → QD → Prop} (ho : OpR X (binaryOp op) r) (hd : OpD X.K r rd) (ha : PD X a ta) (hb : PD X b tb) : PD X (.BinOp a op b pos) (dOp rd ta tb) := pe_w (pe_op ho ha hb) fun σ H Q h => imp_op hd h
theorem pd_cmp {op : CmpOp} {r : R2} {rd : W → W → MH → QD → Prop} (ho : OpR X (compareOp op) r) (hd : OpD X.K r rd) (ha : PD X a ta) (hb : PD X b tb) (hm : behindInMarks op b = false := by first | exact nobehind _ (by decide) (by decide) | rfl) :
    PD X (.Compare a [op] [b] pos) (dOp rd ta tb) := pe_w (pe_cmpR ho ha hb hm) fun σ H Q h => imp_op hd h
theorem pd_ix {r : R2} {rd : W → W → MH → QD → Prop} (hr : IxR X r) (hd : OpD X.K r rd) (ha : PD X a ta) (hb : PD X b tb) (hs : PlainIx b := by intro _ _; rfl) : PD X (.Subscript a b pos) (dOp rd ta tb) := pe_w (pe_ix hr ha hb hs) fun σ H Q h => imp_op hd h
def dTest (t : TD) (τ : DS) (M : MH) (Q : Bool → MH → Prop) : Prop := t τ M fun w M1 => ∃ k, w = .d (.bool k) ∧ Q k M1
theorem imp_test {t' : TE} (hi : ∀ σ H Q, up K ta σ H Q → t' σ H Q) {σ : St} {H : Hp} {Q : Bool → Hp → Prop} (h : upT K (dTest ta) σ H Q) : tTest t' σ H Q := by
  obtain ⟨τ, M, Qd, A, h, k⟩ := h
  refine hi σ H _ ⟨τ, M, _, A, h, fun v H' w M' kp r m hq31 => ?_⟩
  obtain ⟨b, e, q⟩ := hq31
  subst e
  simp only [RepW, RepD] at r
  exact ⟨b, r, k b H' M' kp m q⟩
theorem ptd_cmp {op : CmpOp} {r : R2} {rd : W → W → MH → QD → Prop} (ho : OpR X (compareOp op) r) (hd : OpD X.K r rd) (ha : PD X a ta) (hb : PD X b tb) (hm : behindInMarks op b = false := by first | exact nobehind _ (by decide) (by decide) | rfl) :
    PTd X (.Compare a [op] [b] pos) (dTest (dOp rd ta tb)) := pt_w (pt_cmpR ho ha hb hm) fun σ H Q h => imp_test (fun _ _ _ q => imp_op hd q) h
theorem ptd_val (h : PD X e te) (he : ∀ whole, isTrue e X.env whole = (do let v ← whole; standAt e.pos; holding [v] (truthy v)) := by intro _; rfl) : PTd X e (dTest te) := pt_w (pt_val h he) fun σ H Q q => imp_test (fun _ _ _ z => z) q
def UnD (K : PySem.W.Frag) (r : V → Hp → VK → Prop) (rd : W → MH → QD → Prop) : Prop := ∀ x H w M Qd Q, RepW K H w x → MAbs K H M → rd w M Qd → Kont K H Qd Q → r x H Q
def dUn (rd : W → MH → QD → Prop) (ta : TD) (τ : DS) (M : MH) (Q : QD) : Prop := ta τ M fun w M1 => rd w M1 Q
theorem pd_un {op : UnaryOp} {r : V → Hp → VK → Prop} {rd : W → MH → QD → Prop} (ho : UnR X (unaryOp op) r) (hd : UnD X.K r rd) (ha : PD X a ta) : PD X (.UnaryOp op a pos) (dUn rd ta) := pe_w (pe_un ho ha) fun σ H Q h => by
  obtain ⟨τ, M, Qd, A, h, k⟩ := h
  exact ⟨τ, M, _, A, h, fun x H1 w M1 kp r1 m1 q1 => hd x H1 w M1 Qd Q r1 m1 q1 (kgo k kp)⟩

variable {tA tB : TTd} {rest : List Expr}
def dAnd (t u : TTd) (τ : DS) (M : MH) (Q : Bool → MH → Prop) : Prop := t τ M fun k M1 => if k = true then u τ M1 Q else Q false M1
def dOr (t u : TTd) (τ : DS) (M : MH) (Q : Bool → MH → Prop) : Prop := t τ M fun k M1 => if k = true then Q true M1 else u τ M1 Q
def dNot (t : TTd) (τ : DS) (M : MH) (Q : Bool → MH → Prop) : Prop := t τ M fun k M1 => Q (!k) M1
abbrev PWd (X : Cx) (e : Expr) (t : TTd) : Prop := PW X e (upT X.K t)
theorem pw_w {e : Expr} {t t' : TT} (h : PW X e t) (k : ∀ σ H Q, t' σ H Q → t σ H Q) : PW X e t' := fun w pins s σ H Q I q => h w pins s σ H Q I (k σ H Q q)
theorem pwd_and1 (ha : PTd X a tA) : PWd X (.BoolOp .And [a] pos) tA := pw_and1 ha
theorem pwd_or1 (ha : PTd X a tA) : PWd X (.BoolOp .Or [a] pos) tA := pw_or1 ha
theorem pwd_and (ha : PTd X a tA) (hb : PWd X (.BoolOp .And (b :: rest) pos) tB) : PWd X (.BoolOp .And (a :: b :: rest) pos) (dAnd tA tB) := pw_w (pw_and ha hb) fun σ H Q h => by
  obtain ⟨τ, M, Qd, A, h, k⟩ := h
  refine ⟨τ, M, _, A, h, fun b H1 M1 kp m1 q1 => ?_⟩
  cases b with
  | true => rw [if_pos rfl] at q1 ⊢; exact ⟨τ, M1, Qd, A.go kp m1, q1, fun b H2 M2 kp2 m2 q2 => k b H2 M2 (kp.trans kp2) m2 q2⟩
  | false => rw [if_neg Bool.false_ne_true] at q1 ⊢; exact k _ H1 M1 kp m1 q1
theorem pwd_or (ha : PTd X a tA) (hb : PWd X (.BoolOp .Or (b :: rest) pos) tB) : PWd X (.BoolOp .Or (a :: b :: rest) pos) (dOr tA tB) := pw_w (pw_or ha hb) fun σ H Q h => by
  obtain ⟨τ, M, Qd, A, h, k⟩ := h
  refine ⟨τ, M, _, A, h, fun b H1 M1 kp m1 q1 => ?_⟩
  cases b with
  | false => rw [if_neg Bool.false_ne_true] at q1 ⊢; exact ⟨τ, M1, Qd, A.go kp m1, q1, fun b H2 M2 kp2 m2 q2 => k b H2 M2 (kp.trans kp2) m2 q2⟩
  | true => rw [if_pos rfl] at q1 ⊢; exact k _ H1 M1 kp m1 q1
theorem ptd_w (h : PWd X e tA) : PTd X e tA := h.pt
theorem ptd_not (ha : PTd X a tA) : PTd X (.UnaryOp .Not a pos) (dNot tA) := pt_w (pt_not ha) fun σ H Q h => by
  obtain ⟨τ, M, Qd, A, h, k⟩ := h
  exact ⟨τ, M, _, A, h, fun b H1 M1 kp m1 q1 => k (!b) H1 M1 kp m1 q1⟩
variable {es : List Expr} {t : TAd}
def dNil (_ : DS) (M : MH) (Q : List W → MH → Prop) : Prop := Q [] M
def dCons (ta : TD) (tr : TAd) (τ : DS) (M : MH) (Q : List W → MH → Prop) : Prop := ta τ M fun w M1 => tr τ M1 fun ws M2 => Q (w :: ws) M2
theorem pad_nil : PAd X [] dNil := pa_w pa_nil fun σ H Q ⟨τ, M, Qd, A, h, k⟩ => k [] H [] M (Kp.refl H) .nil A.mem h
theorem pad_cons (ha : PD X e te) (hr : PAd X es t) (hs : starEach (e :: es) X.env = (false, eval e X.env) :: starEach es X.env := by rfl) : PAd X (e :: es) (dCons te t) := pa_w (pa_cons ha hr hs) fun σ H Q h => by
  obtain ⟨τ, M, Qd, A, h, k⟩ := h
  exact ⟨τ, M, _, A, h, fun x H1 w M1 kp r1 m1 q1 => ⟨τ, M1, _, A.go kp m1, q1, fun xs H2 ws M2 kp2 r2 m2 q2 => k _ H2 _ M2 (kp.trans kp2) (.cons (r1.keep kp2) r2) m2 q2⟩⟩
def datas : List W → Option (List PyData)
  | [] => some []
  | .d x :: r => (datas r).map (x :: ·)
  | _ :: _ => none
theorem datas_eq : ∀ {ws : List W} {ds : List PyData}, datas ws = some ds → ws = ds.map W.d
  | [], ds, h => by simp only [datas] at h; cases h; rfl
  | .d x :: r, ds, h => by
    simp only [datas] at h
    cases q : datas r with
    | none => rw [q] at h; cases h
    | some l => rw [q] at h; cases h; rw [datas_eq q]; rfl
  | .m _ :: _, ds, h => by simp [datas] at h
  | .t _ :: _, ds, h => by simp [datas] at h
def dLst (t : TAd) (τ : DS) (M : MH) (Q : QD) : Prop := t τ M fun ws M1 => ∃ ds, datas ws = some ds ∧ ds.length ≤ sizeLine ∧ Q (.d (.list ds)) M1
theorem frz_new {H : Hp} {p : Addr} {o : Obj} {vs : List V} {ds : List PyData} (hp : H p = none) (r : RepA K H ds vs) : RepD K (upd H p (.frz o (.lst vs))) (.list ds) (.ref p) := by
  simp only [RepD]
  exact ⟨p, vs, rfl, .inl ⟨o, upd_same⟩, r.keep (Kp.new hp)⟩
theorem imp_frz {H : Hp} {vs : List V} {ds : List PyData} {M : MH} {Qd : QD} {Q : VK} {p : Addr} (hp : H p = none) (r : RepA K H ds vs) (m : MAbs K H M) (q : Qd (.d (.list ds)) M) (k : Kont K H Qd Q) :
    ∃ p' u, V.ref p = .ref p' ∧ (upd H p (.lst vs)) p' = some u ∧ Fz u ∧ ∀ o, Q (.ref p) (upd (upd H p (.lst vs)) p' (.frz o u)) := by
  refine ⟨p, _, rfl, upd_same, trivial, fun o => ?_⟩
  rw [upd_upd]
  exact k _ _ (.d (.list ds)) M (Kp.new hp) (frz_new hp r) (m.new hp) q
theorem pd_lst (h : PAd X es t) : PD X (.List es pos) (dLst t) := pe_w (pe_frz (pe_lst h)) fun σ H Q h => by
  obtain ⟨τ, M, Qd, A, h, k⟩ := h
  refine ⟨τ, M, _, A, h, fun vs H1 ws M1 kp r1 m1 hq32 => ?_⟩
  obtain ⟨ds, e, hz, q1⟩ := hq32
  have e' := datas_eq e
  subst e'
  have rA := r1.data
  exact ⟨by rw [rA.length]; exact hz, fun p hp => imp_frz hp rA m1 q1 (kgo k kp)⟩
def dLstM (t : TAd) (τ : DS) (M : MH) (Q : QD) : Prop := t τ M fun ws M1 => ws.length ≤ sizeLine ∧ ∀ p, M1 p = none → Q (.m p) (updM M1 p (.lst ws))
theorem pd_lstM (h : PAd X es t) : PD X (.List es pos) (dLstM t) := pe_w (pe_lst h) fun σ H Q h => by
  obtain ⟨τ, M, Qd, A, h, k⟩ := h
  refine ⟨τ, M, _, A, h, fun vs H1 ws M1 kp r1 m1 ⟨hz, q1⟩ => ⟨by rw [← r1.length]; exact hz, fun p hp => ?_⟩⟩
  exact k _ _ (.m p) (updM M1 p (.lst ws)) (kp.trans (Kp.new hp)) rfl (m1.put (mo := .lst ws) (Kp.new hp) ⟨vs, upd_same, r1.keep (Kp.new hp)⟩) (q1 p (m1.free hp))
def dTup (t : TAd) (τ : DS) (M : MH) (Q : QD) : Prop := t τ M fun ws M1 => ∃ ds, datas ws = some ds ∧ ds.length ≤ sizeLine ∧ Q (.d (.tuple ds)) M1
theorem pd_tup {x1} (h : PAd X es t) : PD X (.Tuple es x1 pos) (dTup t) := pe_w (pe_tup h) fun σ H Q h => by
  obtain ⟨τ, M, Qd, A, h, k⟩ := h
  refine ⟨τ, M, _, A, h, fun vs H1 ws M1 kp r1 m1 hq33 => ?_⟩
  obtain ⟨ds, e, hz, q1⟩ := hq33
  have e' := datas_eq e
  subst e'
  have rA := r1.data
  refine ⟨by rw [rA.length]; exact hz, fun p hp => k _ _ (.d (.tuple ds)) M1 (kp.trans (Kp.new hp)) ?_ (m1.new hp) q1⟩
  simp only [RepW, RepD]
  exact ⟨p, vs, rfl, .inl (.inl upd_same), rA.keep (Kp.new hp)⟩

variable {x : Str} {p : Pos} {id T : String} {r : List V → Hp → VK → Prop} {rd : List W → MH → QD → Prop}
def CallD (K : PySem.W.Frag) (r : List V → Hp → VK → Prop) (rd : List W → MH → QD → Prop) : Prop := ∀ vs H ws M Qd Q, RepWs K H ws vs → MAbs K H M → rd ws M Qd → Kont K H Qd Q → r vs H Q
def dCB (rd : List W → MH → QD → Prop) (t : TAd) (τ : DS) (M : MH) (Q : QD) : Prop := t τ M fun ws M1 => rd ws M1 Q
theorem imp_cb (hd : CallD K r rd) {σ : St} {H : Hp} {Q : VK} (h : up K (dCB rd t) σ H Q) : tCB r (upA K t) σ H Q := by
  obtain ⟨τ, M, Qd, A, h, k⟩ := h
  exact ⟨τ, M, _, A, h, fun vs H1 ws M1 kp r1 m1 q1 => hd vs H1 ws M1 Qd Q r1 m1 q1 (kgo k kp)⟩
theorem pd_callB (hc : CallR X (.builtin id) r) (hd : CallD X.K r rd) (hg : Gl X x) (hm : X.mg x = none) (hv : bootBuiltins x = some (.builtin id)) (ha : PAd X (e :: es) t) (hn : x ≠ "__name__" := by decide) (hdb : (x == ("__debug__" : Str)) = false := by decide)
    (he : starEach (e :: es) X.env = (false, eval e X.env) :: starEach es X.env := by rfl) (hpl : (backTo pos (starEach es X.env)).any (·.1) = false := by rfl) : PD X (.Call (.Name x p) (e :: es) [] pos) (dCB rd t) :=
  pe_w (pe_callB hc hg hm hv ha hn hdb he hpl) fun σ H Q h => imp_cb hd h
theorem pd_callTy (hc : CallR X (.type T) r) (hd : CallD X.K r rd) (hg : Gl X x) (hm : X.mg x = none) (hv : bootBuiltins x = some (.type T)) (ha : PAd X (e :: es) t) (hn : x ≠ "__name__" := by decide) (hdb : (x == ("__debug__" : Str)) = false := by decide)
    (he : starEach (e :: es) X.env = (false, eval e X.env) :: starEach es X.env := by rfl) (hpl : (backTo pos (starEach es X.env)).any (·.1) = false := by rfl) : PD X (.Call (.Name x p) (e :: es) [] pos) (dCB rd t) :=
  pe_w (pe_callTy hc hg hm hv ha hn hdb he hpl) fun σ H Q h => imp_cb hd h
end
section
variable {X : Cx} {pos : Pos} {st : Stmt} {sts : List Stmt} {t u : TSd} {e : Expr} {te : TD} {K : PySem.W.Frag}
def dNext (D : Ed) (τ : DS) (M : MH) : Prop := D.nx τ M
def dSeq (t u : TSd) (D : Ed) (τ : DS) (M : MH) : Prop := t { D with nx := u D } τ M
theorem pssd_nil : PSsd X [] dNext := pss_w pss_nil fun D σ H ⟨τ, M, Dd, A, h, k1, _⟩ => k1 σ H τ M (Kp.refl H) A h
theorem pssd_cons (h1 : PSd X st t) (h2 : PSsd X sts u) : PSsd X (st :: sts) (dSeq t u) := pss_w (pss_cons h1 h2) fun D σ H ⟨τ, M, Dd, A, h, k1, k2, k3, k4⟩ =>
  ⟨τ, M, { Dd with nx := u Dd }, A, h, fun σ' H' τ' M' kp A' q => ⟨τ', M', Dd, A', q, fun σ2 H2 τ2 M2 kp2 => k1 σ2 H2 τ2 M2 (kp.trans kp2), fun v H2 w M2 kp2 => k2 v H2 w M2 (kp.trans kp2), fun σ2 H2 τ2 M2 kp2 => k3 σ2 H2 τ2 M2 (kp.trans kp2), fun σ2 H2 τ2 M2 kp2 => k4 σ2 H2 τ2 M2 (kp.trans kp2)⟩, k2, k3, k4⟩
theorem pssd_one (h1 : PSd X st t) : PSsd X [st] t := pss_one h1
def dDrop (te : TD) (D : Ed) (τ : DS) (M : MH) : Prop := te τ M fun _ M1 => D.nx τ M1
theorem psd_expr (he : PD X e te) (hs : swapsWith e none pos.line X.env = pure false := by rfl) : PSd X (.Expr e pos) (dDrop te) := ps_w (ps_expr he hs) fun D σ H ⟨τ, M, Dd, A, h, k1, _⟩ =>
  ⟨τ, M, _, A, h, fun v H1 w M1 kp r m q => k1 σ H1 τ M1 kp (A.go kp m) q⟩
def dRet (te : TD) (D : Ed) (τ : DS) (M : MH) : Prop := te τ M D.rt
theorem psd_ret (he : PD X e te) : PSd X (.Return (some e) pos) (dRet te) := ps_w (ps_ret he) fun D σ H ⟨τ, M, Dd, A, h, k1, k2, _⟩ => ⟨τ, M, _, A, h, fun v H1 w M1 kp r m q => k2 v H1 w M1 kp r m q⟩
def dIf (c : TTd) (t u : TSd) (D : Ed) (τ : DS) (M : MH) : Prop := c τ M fun b M1 => if b = true then t D τ M1 else u D τ M1
theorem psd_if {c : Expr} {a b : List Stmt} {tc : TTd} (hc : PTd X c tc) (ha : PSsd X a t) (hb : PSsd X b u) : PSd X (.If c a b pos) (dIf tc t u) := ps_w (ps_if hc ha hb) fun D σ H hq34 => by
  obtain ⟨τ, M, Dd, A, h, k1, k2, k3, k4⟩ := hq34
  refine ⟨τ, M, _, A, h, fun b H1 M1 kp m q => ?_⟩
  have go : ∀ {t' : TSd}, t' Dd τ M1 → upS X.K t' D σ H1 := fun {t'} q => ⟨τ, M1, Dd, A.go kp m, q, fun σ2 H2 τ2 M2 kp2 => k1 σ2 H2 τ2 M2 (kp.trans kp2), fun v H2 w M2 kp2 => k2 v H2 w M2 (kp.trans kp2), fun σ2 H2 τ2 M2 kp2 => k3 σ2 H2 τ2 M2 (kp.trans kp2), fun σ2 H2 τ2 M2 kp2 => k4 σ2 H2 τ2 M2 (kp.trans kp2)⟩
  cases b with
  | true => rw [if_pos rfl] at q; show (if true = true then upS X.K t D σ H1 else upS X.K u D σ H1); rw [if_pos rfl]; exact go q
  | false => rw [if_neg Bool.false_ne_true] at q; show (if false = true then upS X.K t D σ H1 else upS X.K u D σ H1); rw [if_neg Bool.false_ne_true]; exact go q
abbrev TGd := W → DS → MH → (DS → MH → Prop) → Prop
def upG (K : PySem.W.Frag) (g : TGd) : TG := fun v σ H Q => ∃ w τ M Qd, RepW K H w v ∧ Abs K H σ τ M ∧ g w τ M Qd ∧ ∀ σ' H' τ' M', Kp H H' → Abs K H' σ' τ' M' → Qd τ' M' → Q σ' H'
abbrev PGd (X : Cx) (e : Expr) (g : TGd) : Prop := PG X e (upG X.K g)
theorem pg_w {e : Expr} {g g' : TG} (h : PG X e g) (k : ∀ v σ H Q, g' v σ H Q → g v σ H Q) : PG X e g' := fun pins s σ H v u Q I r q => h pins s σ H v u Q I r (k v σ H Q q)
def gN (i : Nat) (w : W) (τ : DS) (M : MH) (Q : DS → MH → Prop) : Prop := Q (τ.set i (some w)) M
theorem pgd_name {i : Nat} {x : Str} (hN : X.N.Nodup) (hi : X.N[i]? = some x) (hx : Loc X.env.scope x) (hf : X.fn x = true ∨ X.env.scope.names.lookup x = some .local := by first | exact .inl rfl | exact .inr rfl | assumption) : PGd X (.Name x pos) (gN i) :=
  pg_w (pg_name hN hi hx hf) fun v σ H Q ⟨w, τ, M, Qd, r, A, h, k⟩ => k _ H _ M (Kp.refl H) (A.set i r) h
def dAsg (te : TD) (g : TGd) (D : Ed) (τ : DS) (M : MH) : Prop := te τ M fun w M1 => g w τ M1 D.nx
theorem imp_asg {g : TGd} {D : Ends} {σ : St} {H : Hp} (h : upS K (dAsg te g) D σ H) : tAsg (up K te) (upG K g) D σ H := by
  obtain ⟨τ, M, Dd, A, h, k1, _⟩ := h
  exact ⟨τ, M, _, A, h, fun v H1 w M1 kp r m q => ⟨w, τ, M1, _, r, A.go kp m, q, fun σ2 H2 τ2 M2 kp2 A2 q2 => k1 σ2 H2 τ2 M2 (kp.trans kp2) A2 q2⟩⟩
theorem psd_asg {tg : Expr} {g : TGd} (he : PD X e te) (hg : PGd X tg g) (hs : swapsWithSole [tg] e pos.line X.env = pure false := by rfl) (hw : swappedStores [tg] e X.env = pure none := by rfl)
    (h1 : (assignEach [tg] X.env).map (·.2) = [assign tg X.env] := by rfl) : PSd X (.Assign [tg] e pos) (dAsg te g) := ps_w (ps_asg he hg hs hw h1) fun D σ H h => imp_asg h
theorem psd_set {i : Nat} {x : Str} {pos' : Pos} (hN : X.N.Nodup) (hi : X.N[i]? = some x) (hx : Loc X.env.scope x) (he : PD X e te) (hs : swapsWith e (some (.Name x pos')) pos.line X.env = pure false := by rfl) (hf : X.fn x = true ∨ X.env.scope.names.lookup x = some .local := by first | exact .inl rfl | exact .inr rfl | assumption) :
    PSd X (.Assign [.Name x pos'] e pos) (dAsg te (gN i)) := ps_w (ps_set hN hi hx he hs hf) fun D σ H ⟨τ, M, Dd, A, h, k1, _⟩ =>
  ⟨τ, M, _, A, h, fun v H1 w M1 kp r m q => k1 _ H1 _ M1 kp ((A.go kp m).set i r) q⟩
end
abbrev SpD := List W → MH → QD → Prop
def upSp (K : PySem.W.Frag) (sp : SpD) : Sp := fun vs H Q _ => ∃ ws M Qd, RepWs K H ws vs ∧ MAbs K H M ∧ sp ws M Qd ∧ Kont K H Qd Q
section
variable {X : Cx} {pos p : Pos} {k : Nat} {f : Addr} {fd : FuncData} {ps : List Str} {sp : SpD} {x : Str} {e : Expr} {es : List Expr} {t : TAd}
def dCall (sp : SpD) (t : TAd) (τ : DS) (M : MH) (Q : QD) : Prop := t τ M fun ws M1 => sp ws M1 Q
theorem pd_call (F : FnOk X.prog X.w X.K X.mg X.base CX0 k f fd ps (upSp X.K sp)) (hr : Room k X.A) (hg : Gl X x) (hm : X.mg x = some (.ref f)) (hk : PySem.W.keepIn X.K (.ref f) = true) (hb : Binds X.K fd ps [])
    (ha : PAd X (e :: es) t) (hdb : (x == ("__debug__" : Str)) = false := by decide) (he : starEach (e :: es) X.env = (false, eval e X.env) :: starEach es X.env := by rfl) (hpl : (backTo pos (starEach es X.env)).any (·.1) = false := by rfl) :
    PD X (.Call (.Name x p) (e :: es) [] pos) (dCall sp t) := pe_w (pe_call (E := E0) (dvs := []) F hr hg hm hk hb .nil pass0 ha hdb he hpl) fun σ H Q h => by
  obtain ⟨τ, M, Qd, A, h, k⟩ := h
  exact ⟨τ, M, _, A, h, fun vs H1 ws M1 kp r1 m1 q1 => ⟨ws, M1, Qd, by rw [List.append_nil]; exact r1, m1, q1, kgo k kp⟩⟩
end
def startD (N : List Str) (ws : List W) : DS := ws.map some ++ List.replicate (N.length - ws.length) none
section
variable {P : Program} {w : World} {K : PySem.W.Frag} {mg : Str → Option Value} {base : Heap}
theorem abs_start {H : Hp} {N : List Str} {ws : List W} {vs : List V} {M : MH} (r : RepWs K H ws vs) (m : MAbs K H M) : Abs K H (start N vs) (startD N ws) M := by
  have hl := r.length
  refine ⟨?_, fun i w e => ?_, m⟩
  · simp [L2.start, startD, hl]
  · unfold startD at e
    by_cases hi : i < ws.length
    · rw [List.getElem?_append_left (by simpa using hi), List.getElem?_map] at e
      cases q : ws[i]? with
      | none => rw [q] at e; cases e
      | some w' =>
        rw [q] at e
        cases e
        obtain ⟨v, e1, r1⟩ := r.get q
        refine ⟨v, ?_, r1⟩
        unfold L2.start
        rw [List.getElem?_append_left (by rw [List.length_map, ← hl]; exact hi), List.getElem?_map, e1]
        rfl
    · rw [List.getElem?_append_right (by simpa using hi), List.getElem?_replicate] at e
      split at e <;> cases e
theorem fun_ok {x qual : Str} {st : Stmt} {f : Addr} {fd : FuncData} {N ps : List Str} {k : Nat} {sp : SpD} {t : TSd} (F : Fun K x qual st f fd) (S : FnScope N ps (defScope st)) (len : ∀ ws M Q, sp ws M Q → ws.length = ps.length)
    (hbody : ∀ (cdv : Value) (A : Around) (outer : List Env) (s : Shared) (H : Hp) (E : XK), Room k (A.deeper (envOfC qual (defScope st) s.heap.objs.size f cdv)) →
      PSsd (cxOf CX0 P w K mg base N qual (defScope st) f cdv A outer s H E).nox (defBody st) t)
    (read : ∀ ws M Q, sp ws M Q → t { nx := fun _ M' => Q (.d .none) M', rt := Q } (startD N ws) M) : FnOk P w K mg base CX0 (k + 1) f fd ps (upSp K sp) := by
  refine F.ok S (fun vs H Q E h => ?_) (fun cdv A outer s H vs Q E hr h => ?_)
  · obtain ⟨ws, M, Qd, r, _, q, _⟩ := h
    rw [← r.length]
    exact len _ _ _ q
  · obtain ⟨ws, M, Qd, r, m, q, kk⟩ := h
    refine ⟨_, hbody cdv A outer s H E hr, startD N ws, M, _, abs_start r m, read ws M Qd q, fun σ' H' τ' M' kp A' q' => ?_, fun v H' w' M' kp r' m' q' => ?_, fun σ' H' τ' M' kp A' q' => q'.elim, fun σ' H' τ' M' kp A' q' => q'.elim⟩
    · exact kk _ H' _ M' kp (by simp [RepW, RepD]) A'.mem q'
    · exact kk v H' w' M' kp r' m' q'
end
end D
set_option Elab.async false
set_option linter.all false
set_option maxRecDepth 100000
set_option maxHeartbeats 4000000
namespace D
open PySem PySem.Spec PyProof.Rows L2
section
variable {X : Cx} {pins : List (Addr × Obj)} {σ : St} {H : Hp} {s : Shared}
mutual
theorem reads_of (I : Inv X pins σ H s) : ∀ (d : PyData) {x : V} {u : Value}, RepD X.K H d x → RelV x u → d.hasDict = false → ∃ as, Reads s.heap u d as
  | .none, x, u, h, r, _ => by
    simp only [RepD] at h; subst h
    cases (show u = Value.none from r)
    exact ⟨_, .none⟩
  | .bool b, x, u, h, r, _ => by
    simp only [RepD] at h; subst h
    cases (show u = Value.bool b from r)
    exact ⟨_, .bool b⟩
  | .int i, x, u, h, r, _ => by
    simp only [RepD] at h; subst h
    obtain ⟨t, e⟩ := (show ∃ t, u = Value.int i t from r)
    subst e
    exact ⟨_, .int i t⟩
  | .str z, x, u, h, r, _ => by
    simp only [RepD] at h; subst h
    obtain ⟨t, e⟩ := (show ∃ t, u = Value.str z t from r)
    subst e
    exact ⟨_, .str z t⟩
  | .list ds, x, u, h, r, hd => by
    simp only [RepD] at h
    obtain ⟨a, vs, e, hs, ra⟩ := h
    subst e
    cases (show u = Value.ref a from r)
    obtain ⟨its, rv, ⟨o, n, e1, e2, e3, e4⟩, hz⟩ := I.list hs.sq
    obtain ⟨as, q⟩ := readsA_of I ds ra rv (by simpa [PyData.hasDict] using hd)
    exact ⟨_, .list e1 e2 e4 (by simpa using q)⟩
  | .tuple ds, x, u, h, r, hd => by
    simp only [RepD] at h
    obtain ⟨a, vs, e, hs, ra⟩ := h
    subst e
    cases (show u = Value.ref a from r)
    obtain ⟨its, rv, ⟨o, e1, e2, n, e4⟩, hz⟩ := I.tuple hs
    obtain ⟨as, q⟩ := readsA_of I ds ra rv (by simpa [PyData.hasDict] using hd)
    exact ⟨_, .tuple e1 e2 e4 (by simpa using q)⟩
  | .dict kvs, x, u, h, r, hd => by simp [PyData.hasDict] at hd
theorem readsA_of (I : Inv X pins σ H s) : ∀ (ds : List PyData) {xs : List V} {us : List Value}, RepA X.K H ds xs → Vals xs us → PyData.hasDictAll ds = false → ∃ as, ReadsAll s.heap us ds as
  | [], xs, us, h, r, _ => by
    simp only [RepA] at h; subst h
    cases r
    exact ⟨_, .nil⟩
  | d :: ds, xs, us, h, r, hd => by
    simp only [RepA] at h
    obtain ⟨v, vr, e, h1, h2⟩ := h
    subst e
    simp only [PyData.hasDictAll, Bool.or_eq_false_iff] at hd
    cases r with
    | cons r1 r2 =>
      obtain ⟨as, q1⟩ := reads_of I d h1 r1 hd.1
      obtain ⟨bs, q2⟩ := readsA_of I ds h2 r2 hd.2
      exact ⟨_, .cons q1 q2⟩
end
def flatD : PyData → Bool
  | .none | .bool _ | .int _ | .str _ => true
  | _ => false
def reprOk (d : PyData) : Bool := d.showable && decide (d.shown.length ≤ sizeLine) && decide (d.depth ≤ 60) && (!d.hasDict || match d with
  | .dict kvs => kvs.all fun p => flatD p.2
  | _ => false)
def eqOk (d : PyData) : Bool := SeqAt.shaped d && !d.hasDict
def eqOk2 : PyData → PyData → Bool
  | .str _, .str _ => true
  | d, d' => eqOk d && eqOk d'
theorem eqOk2_cases {d d' : PyData} (h : eqOk2 d d' = true) : (∃ x y, d = .str x ∧ d' = .str y) ∨ (eqOk d = true ∧ eqOk d' = true) := by
  cases d with
  | str x =>
    cases d' with
    | str y => exact .inl ⟨x, y, rfl, rfl⟩
    | _ => exact .inr (by simpa [eqOk2] using h)
  | _ => exact .inr (by simpa [eqOk2] using h)
theorem str_dec (x y : Str) : decide (V.str x = V.str y) = PyData.eqv (.str x) (.str y) := by
  rw [PyData.eqv]
  by_cases e : x = y
  · subst e; simp
  · rw [decide_eq_false (fun z => e (V.str.inj z))]
    exact (beq_eq_false_iff_ne.mpr e).symm
theorem op_eqD {k : Nat} (hr : Room k X.A) : OpR X (compareOp .Eq) (fun x y H Q => ∃ d d', RepD X.K H d x ∧ RepD X.K H d' y ∧ eqOk2 d d' = true ∧ Q (.bl (PyData.eqv d d')) H) := by
  intro pins s σ H x y v u Q I rx ry h
  obtain ⟨d, d', h1, h2, o, q⟩ := h
  rcases eqOk2_cases o with ⟨a, b, e1, e2⟩ | ⟨o1, o2⟩
  · subst e1; subst e2
    simp only [RepD] at h1 h2
    subst h1; subst h2
    exact op_eq pins s σ H _ _ v u Q I rx ry ⟨rfl, by rw [str_dec]; exact q⟩
  simp only [eqOk, Bool.and_eq_true, Bool.not_eq_true'] at o1 o2
  obtain ⟨as, r1⟩ := reads_of I d h1 rx o1.2
  obtain ⟨bs, r2⟩ := reads_of I d' h2 ry o2.2
  exact eq_dataH r1 r2 o1.1 o2.1 hr.units ⟨.bl _, H, I, rfl, q⟩
theorem op_neD {k : Nat} (hr : Room k X.A) : OpR X (compareOp .NotEq) (fun x y H Q => ∃ d d', RepD X.K H d x ∧ RepD X.K H d' y ∧ eqOk2 d d' = true ∧ Q (.bl (!PyData.eqv d d')) H) := by
  intro pins s σ H x y v u Q I rx ry h
  obtain ⟨d, d', h1, h2, o, q⟩ := h
  rcases eqOk2_cases o with ⟨a, b, e1, e2⟩ | ⟨o1, o2⟩
  · subst e1; subst e2
    simp only [RepD] at h1 h2
    subst h1; subst h2
    exact op_ne pins s σ H _ _ v u Q I rx ry ⟨rfl, by rw [str_dec]; exact q⟩
  simp only [eqOk, Bool.and_eq_true, Bool.not_eq_true'] at o1 o2
  obtain ⟨as, r1⟩ := reads_of I d h1 rx o1.2
  obtain ⟨bs, r2⟩ := reads_of I d' h2 ry o2.2
  exact ne_dataH r1 r2 o1.1 o2.1 hr.units ⟨.bl _, H, I, rfl, q⟩
end
end D
set_option Elab.async false
set_option linter.all false
set_option maxRecDepth 100000
set_option maxHeartbeats 4000000
namespace D
open PySem PySem.Spec PyProof.Rows L2
section
variable {X : Cx} {K : PySem.W.Frag}
theorem OpR.or {f : Value → Value → Sem Value} {r r' : R2} (h : OpR X f r) (h' : OpR X f r') : OpR X f (fun x y H Q => r x y H Q ∨ r' x y H Q) := by
  intro pins s σ H x y v u Q I rx ry q
  rcases q with q | q
  · exact h pins s σ H x y v u Q I rx ry q
  · exact h' pins s σ H x y v u Q I rx ry q
theorem OpD.or {r r' : R2} {rd rd' : W → W → MH → QD → Prop} (h : OpD K r rd) (h' : OpD K r' rd') : OpD K (fun x y H Q => r x y H Q ∨ r' x y H Q) (fun w w' M Q => rd w w' M Q ∨ rd' w w' M Q) := by
  intro x y H w w' M Qd Q r1 r2 m q k
  rcases q with q | q
  · exact .inl (h x y H w w' M Qd Q r1 r2 m q k)
  · exact .inr (h' x y H w w' M Qd Q r1 r2 m q k)
def rdI0 (g : Int → Int → PyData) (w : W) (w' : W) (M : MH) (Q : QD) : Prop := ∃ i j, w = .d (.int i) ∧ w' = .d (.int j) ∧ Q (.d (g i j)) M
def rdI (C : Int → Int → Prop) (g : Int → Int → PyData) (w : W) (w' : W) (M : MH) (Q : QD) : Prop := ∃ i j, w = .d (.int i) ∧ w' = .d (.int j) ∧ C i j ∧ Q (.d (g i j)) M
theorem opd_I0 {g : Int → Int → V} {gd : Int → Int → PyData} (hg : ∀ i j H, RepD K H (gd i j) (g i j)) : OpD K (rI0 g) (rdI0 gd) := by
  intro x y H w w' M Qd Q r1 r2 m ⟨i, j, e1, e2, q⟩ k
  subst e1; subst e2
  simp only [RepW, RepD] at r1 r2
  exact ⟨i, j, r1, r2, k _ H (.d (gd i j)) M (Kp.refl H) (hg i j H) m q⟩
theorem opd_I {C : Int → Int → Prop} {g : Int → Int → V} {gd : Int → Int → PyData} (hg : ∀ i j H, RepD K H (gd i j) (g i j)) : OpD K (rI C g) (rdI C gd) := by
  intro x y H w w' M Qd Q r1 r2 m ⟨i, j, e1, e2, c, q⟩ k
  subst e1; subst e2
  simp only [RepW, RepD] at r1 r2
  exact ⟨i, j, r1, r2, c, k _ H (.d (gd i j)) M (Kp.refl H) (hg i j H) m q⟩
def rdSub (w w' : W) (M : MH) (Q : QD) : Prop := rdI0 (fun i j => .int (i - j)) w w' M Q
def rdMul (w w' : W) (M : MH) (Q : QD) : Prop := rdI CMul (fun i j => .int (i * j)) w w' M Q
def rdMod (w w' : W) (M : MH) (Q : QD) : Prop := rdI (fun _ j => 0 < j) (fun i j => .int (i % j)) w w' M Q
def rdDiv (w w' : W) (M : MH) (Q : QD) : Prop := rdI CDiv (fun i j => .int (i / j)) w w' M Q
def rdAdd (w : W) (w' : W) (M : MH) (Q : QD) : Prop := rdI0 (fun i j => .int (i + j)) w w' M Q ∨ ∃ x y, w = .d (.str x) ∧ w' = .d (.str y) ∧ x.length + y.length ≤ sizeLine ∧ Q (.d (.str (x ++ y))) M
theorem opd_sub : OpD K (rI0 fun i j => .int (i - j)) rdSub := opd_I0 fun _ _ _ => by simp [RepD]
theorem opd_mul : OpD K (rI CMul fun i j => .int (i * j)) rdMul := opd_I fun _ _ _ => by simp [RepD]
theorem opd_mod : OpD K (rI (fun _ j => 0 < j) fun i j => .int (i % j)) rdMod := opd_I fun _ _ _ => by simp [RepD]
theorem opd_div : OpD K (rI CDiv fun i j => .int (i / j)) rdDiv := opd_I fun _ _ _ => by simp [RepD]
def rStr2 : R2 := fun x y H Q => ∃ i j, x = .str i ∧ y = .str j ∧ i.length + j.length ≤ sizeLine ∧ Q (.str (i ++ j)) H
theorem opd_addS : OpD K rStr2 (fun w w' M Q => ∃ x y, w = .d (.str x) ∧ w' = .d (.str y) ∧ x.length + y.length ≤ sizeLine ∧ Q (.d (.str (x ++ y))) M) := by
  intro x y H w w' M Qd Q r1 r2 m ⟨i, j, e1, e2, c, q⟩ k
  subst e1; subst e2
  simp only [RepW, RepD] at r1 r2
  exact ⟨i, j, r1, r2, c, k _ H (.d (.str (i ++ j))) M (Kp.refl H) (by simp [RepW, RepD]) m q⟩
theorem op_add2 : OpR X (binaryOp .Add) (fun x y H Q => rI0 (fun i j => .int (i + j)) x y H Q ∨ rStr2 x y H Q) := OpR.or op_add op_add_str
theorem opd_add2 : OpD K (fun x y H Q => rI0 (fun i j => .int (i + j)) x y H Q ∨ rStr2 x y H Q) rdAdd := OpD.or (opd_I0 fun _ _ _ => by simp [RepD]) opd_addS
def rdLt (w w' : W) (M : MH) (Q : QD) : Prop := rdI0 (fun i j => .bool (decide (i < j))) w w' M Q
def rdGt (w w' : W) (M : MH) (Q : QD) : Prop := rdI0 (fun i j => .bool (decide (j < i))) w w' M Q
def rdGe (w w' : W) (M : MH) (Q : QD) : Prop := rdI0 (fun i j => .bool (decide (j ≤ i))) w w' M Q
theorem opd_lt : OpD K (rI0 fun i j => .bl (decide (i < j))) rdLt := opd_I0 fun _ _ _ => by simp [RepD]
theorem opd_gt : OpD K (rI0 fun i j => .bl (decide (j < i))) rdGt := opd_I0 fun _ _ _ => by simp [RepD]
theorem opd_ge : OpD K (rI0 fun i j => .bl (decide (j ≤ i))) rdGe := opd_I0 fun _ _ _ => by simp [RepD]
def rdEq (w : W) (w' : W) (M : MH) (Q : QD) : Prop := ∃ d d', w = .d d ∧ w' = .d d' ∧ eqOk2 d d' = true ∧ Q (.d (.bool (PyData.eqv d d'))) M
theorem opd_eq : OpD K (fun x y H Q => ∃ d d', RepD K H d x ∧ RepD K H d' y ∧ eqOk2 d d' = true ∧ Q (.bl (PyData.eqv d d')) H) rdEq := by
  intro x y H w w' M Qd Q r1 r2 m ⟨d, d', e1, e2, o1, q⟩ k
  subst e1; subst e2
  exact ⟨d, d', r1, r2, o1, k _ H (.d (.bool _)) M (Kp.refl H) (by simp [RepW, RepD]) m q⟩
def rdNeg (w : W) (M : MH) (Q : QD) : Prop := ∃ i, w = .d (.int i) ∧ Q (.d (.int (-i))) M
theorem und_neg : UnD K (rU fun i => .int (-i)) rdNeg := by
  intro x H w M Qd Q r m ⟨i, e, q⟩ k
  subst e
  simp only [RepW, RepD] at r
  exact ⟨i, r, k _ H (.d (.int (-i))) M (Kp.refl H) (by simp [RepW, RepD]) m q⟩
def fitW : W → Bool
  | .d (.str z) => decide (z.length ≤ sizeLine)
  | _ => true
def ixW (M : MH) : W → Int → Option W
  | .d (.list ds), i => (atI ds i).map W.d
  | .d (.tuple ds), i => (atI ds i).map W.d
  | .d (.str z), i => (atI z.cps.toList i).map fun c => W.d (.str ⟨#[c]⟩)
  | .m a, i => match M a with
    | some (.lst ws) => atI ws i
    | some (.tup ws) => atI ws i
    | _ => none
  | _, _ => none
def rdIx (w : W) (w' : W) (M : MH) (Q : QD) : Prop := ∃ i x, w' = .d (.int i) ∧ ixW M w i = some x ∧ fitW w = true ∧ Q x M
theorem atI_repA {H : Hp} {ds : List PyData} {vs : List V} {i : Int} {d : PyData} (r : RepA K H ds vs) (e : atI ds i = some d) : ∃ v, atI vs i = some v ∧ RepD K H d v := by
  unfold atI at e ⊢
  rw [r.length]
  cases q : ixN ds.length i with
  | none => rw [q] at e; cases e
  | some j =>
    rw [q] at e
    exact r.get e
theorem atI_repWs {H : Hp} {ds : List W} {vs : List V} {i : Int} {d : W} (r : RepWs K H ds vs) (e : atI ds i = some d) : ∃ v, atI vs i = some v ∧ RepW K H d v := by
  unfold atI at e ⊢
  rw [← r.length]
  cases q : ixN ds.length i with
  | none => rw [q] at e; cases e
  | some j =>
    rw [q] at e
    exact r.get e
theorem opd_ix : OpD K (rIx K) rdIx := by
  intro x y H w w' M Qd Q r1 r2 m ⟨i, z, e2, ei, hf, q⟩ k
  subst e2
  simp only [RepW, RepD] at r2
  cases w with
  | t n => simp [ixW] at ei
  | m a =>
    simp only [RepW] at r1
    simp only [ixW] at ei
    cases hm : M a with
    | none => rw [hm] at ei; cases ei
    | some mo =>
      rw [hm] at ei
      cases mo with
      | lst ws =>
        obtain ⟨vs, e1, rw1⟩ := m a _ hm
        obtain ⟨v, e3, rv⟩ := atI_repWs rw1 ei
        exact .inl ⟨a, vs, i, v, r1, r2, SqL.of e1, e3, k v H z M (Kp.refl H) rv m q⟩
      | dic _ => cases ei
      | dct _ => cases ei
      | fdic _ => cases ei
      | ins _ _ => cases ei
      | tup ws =>
        obtain ⟨vs, e1, rw1⟩ := m a _ hm
        obtain ⟨v, e3, rv⟩ := atI_repWs rw1 ei
        exact .inr (.inl ⟨a, vs, i, v, r1, r2, .inl (.inl e1), e3, k v H z M (Kp.refl H) rv m q⟩)
      | flst _ => cases ei
      | exc _ _ => cases ei
  | d d =>
    cases d with
    | list ds =>
      simp only [RepW, RepD] at r1
      obtain ⟨a, vs, e1, hs, ra⟩ := r1
      simp only [ixW] at ei
      cases h : atI ds i with
      | none => rw [h] at ei; cases ei
      | some d =>
        rw [h] at ei
        cases ei
        obtain ⟨v, e3, rv⟩ := atI_repA ra h
        exact .inl ⟨a, vs, i, v, e1, r2, hs.sq, e3, k v H (.d d) M (Kp.refl H) rv m q⟩
    | tuple ds =>
      simp only [RepW, RepD] at r1
      obtain ⟨a, vs, e1, hs, ra⟩ := r1
      simp only [ixW] at ei
      cases h : atI ds i with
      | none => rw [h] at ei; cases ei
      | some d =>
        rw [h] at ei
        cases ei
        obtain ⟨v, e3, rv⟩ := atI_repA ra h
        exact .inr (.inl ⟨a, vs, i, v, e1, r2, hs, e3, k v H (.d d) M (Kp.refl H) rv m q⟩)
    | str s =>
      simp only [RepW, RepD] at r1
      simp only [ixW] at ei
      cases h : atI s.cps.toList i with
      | none => rw [h] at ei; cases ei
      | some c =>
        rw [h] at ei
        cases ei
        exact .inr (.inr ⟨s, i, c, r1, r2, of_decide_eq_true hf, h, k _ H (.d (.str ⟨#[c]⟩)) M (Kp.refl H) (by simp [RepW, RepD]) m q⟩)
    | _ => simp [ixW] at ei
theorem pe_frzO {e : Expr} {t : TE} (h : PE X e t) : PE X e (fun σ H Q => t σ H fun v H1 => Q v H1 ∨ ∃ p u, v = .ref p ∧ H1 p = some u ∧ Fz u ∧ ∀ o, Q v (upd H1 p (.frz o u))) := by
  intro pins s σ H Q I hq
  refine thn (h pins s σ H _ I hq) fun v s1 hq35 => ?_
  obtain ⟨x, H1, I1, r1, q⟩ := hq35
  rcases q with q | ⟨p, u, e1, e2, f, q⟩
  · exact ⟨x, _, I1, r1, q⟩
  · obtain ⟨o, I2⟩ := I1.freeze e2 f
    exact ⟨x, _, I2, r1, q o⟩
def rSlS : V → Option Int → Option Int → Hp → VK → Prop := fun x lo hi H Q => ∃ z, x = .str z ∧ z.length ≤ sizeLine ∧ Q (.str (Txt.slice z lo hi)) H
theorem sl_str : SlR X rSlS := by
  intro pins s σ H x v vl vu lo hi sl Q I rx hs pl pu h
  obtain ⟨z, rfl, hz, q⟩ := h
  obtain ⟨t, rfl⟩ := rx
  have fin : ∀ t' k, EP X pins σ Q (.str (Txt.slice z lo hi) t') { s with toks := k } := fun t' k => ⟨.str _, H, I.tok _, ⟨_, rfl⟩, q⟩
  refine ⟨"str", _, F.slot_str_getitem.lookup, typeIs_str _ _ _, ?_⟩
  cases pl with
  | none =>
    cases pu with
    | none => exact wpAny_getItem_str_slice (l := none) (u := none) (st := none) hs rfl (post_val_or_str ⟨Nat.le_trans (Txt.slice_le z _ _) hz, fin⟩)
    | int j uj => exact wpAny_getItem_str_slice (l := none) (u := some (j, uj)) (st := none) hs rfl (post_val_or_str ⟨Nat.le_trans (Txt.slice_le z _ _) hz, fin⟩)
  | int i ui =>
    cases pu with
    | none => exact wpAny_getItem_str_slice (l := some (i, ui)) (u := none) (st := none) hs rfl (post_val_or_str ⟨Nat.le_trans (Txt.slice_le z _ _) hz, fin⟩)
    | int j uj => exact wpAny_getItem_str_slice (l := some (i, ui)) (u := some (j, uj)) (st := none) hs rfl (post_val_or_str ⟨Nat.le_trans (Txt.slice_le z _ _) hz, fin⟩)
abbrev TOd := DS → MH → (Option Int → MH → Prop) → Prop
def upO (K : PySem.W.Frag) (t : TOd) : TO := fun σ H Q => ∃ τ M Qd, Abs K H σ τ M ∧ t τ M Qd ∧ ∀ b H' M', Kp H H' → MAbs K H' M' → Qd b M' → Q b H'
abbrev POd (X : Cx) (e : Option Expr) (t : TOd) : Prop := PO X e (upO X.K t)
theorem po_w {e : Option Expr} {t t' : TO} (h : PO X e t) (k : ∀ σ H Q, t' σ H Q → t σ H Q) : PO X e t' := fun pins s σ H Q I q => h pins s σ H Q I (k σ H Q q)
def dNoPart (_ : DS) (M : MH) (Q : Option Int → MH → Prop) : Prop := Q none M
def dPart (t : TD) (τ : DS) (M : MH) (Q : Option Int → MH → Prop) : Prop := t τ M fun w M1 => ∃ i, w = .d (.int i) ∧ Q (some i) M1
theorem pod_none : POd X none dNoPart := po_w po_none fun σ H Q ⟨τ, M, Qd, A, q, k⟩ => k none H M (Kp.refl H) A.mem q
theorem pod_some {e : Expr} {te : TD} (h : PD X e te) : POd X (some e) (dPart te) := po_w (po_some h) fun σ H Q ⟨τ, M, Qd, A, q, k⟩ => ⟨τ, M, _, A, q, fun v H1 w M1 kp r m hq36 => by
  obtain ⟨i, e, q1⟩ := hq36
  subst e
  simp only [RepW, RepD] at r
  exact ⟨i, r, k _ H1 M1 kp m q1⟩⟩
def cutD {α : Type} (xs : List α) (lo hi : Option Int) : List α := (xs.drop (HT.sIx xs.length 0 lo)).take (HT.sIx xs.length xs.length hi - HT.sIx xs.length 0 lo)
def wholeD (n : Nat) (lo hi : Option Int) : Bool := decide (HT.sIx n 0 lo = 0 ∧ HT.sIx n n hi = n)
def slW : W → Option Int → Option Int → Option W
  | .d (.list ds), lo, hi => some (.d (.list (cutD ds lo hi)))
  | .d (.tuple ds), lo, hi => if wholeD ds.length lo hi then none else some (.d (.tuple (cutD ds lo hi)))
  | .d (.str z), lo, hi => some (.d (.str (Txt.slice z lo hi)))
  | _, _, _ => none
def dSl (te : TD) (tl th : TOd) (τ : DS) (M : MH) (Q : QD) : Prop := te τ M fun w M1 => tl τ M1 fun lo M2 => th τ M2 fun hi M3 => ∃ z, slW w lo hi = some z ∧ fitW w = true ∧ Q z M3
theorem sl_any : SlR X (fun x lo hi H Q => rSlL X.K x lo hi H Q ∨ rSlT X.K x lo hi H Q ∨ rSlS x lo hi H Q) := sl_list.or (sl_tup.or sl_str)
theorem RepA.cut {H : Hp} {ds : List PyData} {vs : List V} (r : RepA K H ds vs) (lo hi : Option Int) : RepA K H (cutD ds lo hi) (cutV vs lo hi) := by
  unfold cutD cutV
  rw [r.length]
  exact (r.drop _).take _
theorem pd_slice {e : Expr} {te : TD} {lo hi : Option Expr} {tl th : TOd} {pos p2 : Pos} (he : PD X e te) (hl : POd X lo tl) (hu : POd X hi th) : PD X (.Subscript e (.Slice lo hi none p2) pos) (dSl te tl th) :=
  pe_w (pe_frzO (pe_slice sl_any he hl hu)) fun σ H Q h => by
    obtain ⟨τ, M, Qd, A, h, k⟩ := h
    refine ⟨τ, M, _, A, h, fun v H1 w M1 kp1 r1 m1 q1 => ⟨τ, M1, _, A.go kp1 m1, q1, fun lo H2 M2 kp2 m2 q2 => ⟨τ, M2, _, A.go (kp1.trans kp2) m2, q2, fun hi H3 M3 kp3 m3 q3 => ?_⟩⟩⟩
    obtain ⟨z, ez, hf, q⟩ := q3
    have kp := (kp1.trans kp2).trans kp3
    have r := r1.keep (kp2.trans kp3)
    cases w with
    | t n => simp [slW] at ez
    | m a => simp [slW] at ez
    | d d =>
      cases d with
      | list ds =>
        simp only [slW] at ez
        cases ez
        simp only [RepW, RepD] at r
        obtain ⟨a, vs, e1, hs, ra⟩ := r
        exact .inl ⟨a, vs, e1, hs.sq, fun p hp => .inr (imp_frz hp (RepA.cut ra lo hi) m3 q (kgo k kp))⟩
      | tuple ds =>
        simp only [slW] at ez
        split at ez
        · cases ez
        · rename_i hw
          cases ez
          simp only [RepW, RepD] at r
          obtain ⟨a, vs, e1, hs, ra⟩ := r
          refine .inr (.inl ⟨a, vs, e1, hs, ?_, fun p hp => .inl ?_⟩)
          · rw [ra.length]
            simpa [wholeD] using hw
          · refine k _ _ (.d (.tuple _)) M3 (kp.trans (Kp.new hp)) ?_ (m3.new hp) q
            simp only [RepW, RepD]
            exact ⟨p, _, rfl, .inl (.inl upd_same), (RepA.cut ra lo hi).keep (Kp.new hp)⟩
      | str s =>
        simp only [slW] at ez
        cases ez
        simp only [RepW, RepD] at r
        exact .inr (.inr ⟨s, r, of_decide_eq_true hf, .inl (k _ H3 (.d (.str _)) M3 kp (by simp [RepW, RepD]) m3 q)⟩)
      | _ => simp [slW] at ez
def gSet (to ti : TD) (v : W) (τ : DS) (M : MH) (Q : DS → MH → Prop) : Prop := to τ M fun w M1 => ti τ M1 fun w' M2 => ∃ a ws i j, w = .m a ∧ w' = .d (.int i) ∧ M2 a = some (.lst ws) ∧ ixN ws.length i = some j ∧ Q τ (updM M2 a (.lst (ws.set j v)))
theorem set_rep {H : Hp} {M : MH} {a : Addr} {ws : List W} {vs : List V} {j : Nat} {v : V} {w : W} (m : MAbs K H M) (e : H a = some (.lst vs)) (rw1 : RepWs K H ws vs) (rv : RepW K H w v) :
    Kp H (upd H a (.lst (vs.set j v))) ∧ MAbs K (upd H a (.lst (vs.set j v))) (updM M a (.lst (ws.set j w))) := by
  have kp : Kp H (upd H a (.lst (vs.set j v))) := Kp.set e (fun xs z => nomatch z) fun _ _ z => nomatch z
  exact ⟨kp, m.put kp ⟨_, upd_same, (RepWs.set rv j rw1).keep kp⟩⟩
theorem pgd_sub {o i : Expr} {to ti : TD} {pos : Pos} (ho : PD X o to) (hi : PD X i ti)
    (ha : ∀ v, assign (.Subscript o i pos) X.env v = (do
      let ov ← holding [v] (eval o X.env)
      let iv ← holding [v, ov] (eval i X.env)
      standAt pos
      holding [v, ov, iv] (setItem ov iv v)
      release [v, ov, iv] []) := by intro _; rfl) : PGd X (.Subscript o i pos) (gSet to ti) := pg_w (pg_sub ho hi set_list ha) fun v σ H Q h => by
  obtain ⟨w, τ, M, Qd, rv, A, h, k⟩ := h
  refine ⟨τ, M, _, A, h, fun x H1 wo M1 kp1 r1 m1 q1 => ⟨τ, M1, _, A.go kp1 m1, q1, fun y H2 wi M2 kp2 r2 m2 q2 => ?_⟩⟩
  obtain ⟨a, ws, i, j, e1, e2, hm, hj, q⟩ := q2
  subst e1; subst e2
  simp only [RepW, RepD] at r1 r2
  obtain ⟨vs, e3, rw1⟩ := m2 a _ hm
  have kp := kp1.trans kp2
  obtain ⟨kp3, m3⟩ := set_rep (j := j) m2 e3 rw1 (rv.keep kp)
  exact ⟨a, vs, i, j, r1, r2, e3, by rw [← rw1.length]; exact hj, k σ _ τ _ (kp.trans kp3) (A.go (kp.trans kp3) m3) q⟩
theorem get_list : PGet X (rIxL X.K) := by
  intro pins s σ H o i ov iv Q I ro ri h
  obtain ⟨p, xs, k, z, rfl, rfl, hq, he, q⟩ := h
  cases ro
  obtain ⟨t, rfl⟩ := ri
  obtain ⟨its, r, pl, hz⟩ := I.list hq
  obtain ⟨j, h1, h2, h3, h4, h5⟩ := atI_get he
  obtain ⟨w, ew, rw'⟩ := r.get h2
  have hl := r.length
  have hn := line63
  have fin : EP X pins σ Q w s := ⟨z, H, I, rw', q⟩
  by_cases h0 : 0 ≤ k
  · have hj : k.toNat = j := by
      rw [seqIndex_of h0 h5] at h1
      exact Option.some.inj h1
    exact wpAny_getItem_list pl.isList h0 (by omega) (by rw [hj]; simpa using ew) fin
  · have hj : (k + (its.toArray.size : Int)).toNat = j := by
      rw [seqIndex_neg (by omega) h4] at h1
      rw [List.size_toArray, ← hl]
      exact Option.some.inj h1
    exact wpAny_getItem_list_neg pl.isList (by omega) (by rw [List.size_toArray] <;> omega) (by omega) (by rw [hj]; simpa using ew) fin
def dAugS (to ti te : TD) (f : Int → Int → Int) (D : Ed) (τ : DS) (M : MH) : Prop := to τ M fun w M1 => ti τ M1 fun w' M2 => ∃ a ws i j n, w = .m a ∧ w' = .d (.int i) ∧ M2 a = some (.lst ws) ∧ ixN ws.length i = some j ∧ ws[j]? = some (.d (.int n)) ∧
  te τ M2 fun y M3 => ∃ n', y = .d (.int n') ∧ M3 = M2 ∧ D.nx τ (updM M3 a (.lst (ws.set j (.d (.int (f n n'))))))
theorem psd_augS {o i e : Expr} {to ti te : TD} {op : Operator} {f : Int → Int → Int} {pos tpos : Pos} (ho : PD X o to) (hi : PD X i ti) (he : PD X e te) (hp : PIp X op (ipI f))
    (ha : ∀ ov iv new, augStore i ov iv new = (do holding [new, ov, iv] (setItem ov iv new); release [new, ov, iv] []; pure .next) := by intros; rfl) : PSd X (.AugAssign (.Subscript o i tpos) op e pos) (dAugS to ti te f) :=
  ps_w (ps_augS ho hi get_list he hp set_list ha) fun D σ H h => by
    obtain ⟨τ, M, Dd, A, h, k1, _⟩ := h
    refine ⟨τ, M, _, A, h, fun x H1 wo M1 kp1 r1 m1 q1 => ⟨τ, M1, _, A.go kp1 m1, q1, fun y H2 wi M2 kp2 r2 m2 q2 => ?_⟩⟩
    obtain ⟨a, ws, i, j, n, e1, e2, hm, hj, hn, q⟩ := q2
    subst e1; subst e2
    simp only [RepW, RepD] at r1 r2
    obtain ⟨vs, e3, rw1⟩ := m2 a _ hm
    obtain ⟨v, e4, rv⟩ := rw1.get hn
    simp only [RepW, RepD] at rv
    have hj' : ixN vs.length i = some j := by rw [← rw1.length]; exact hj
    refine ⟨a, vs, i, v, r1, r2, SqL.of e3, by unfold atI; rw [hj']; exact e4, ?_⟩
    refine ⟨τ, M2, _, A.go (kp1.trans kp2) m2, q, fun z H3 wz M3 kp3 r3 m3 q3 => ?_⟩
    obtain ⟨n', e5, e6, qn⟩ := q3
    subst e5; subst e6
    simp only [RepW, RepD] at r3
    refine ⟨n, n', rv, r3, ?_⟩
    obtain ⟨vs', e3', rw2⟩ := m3 a _ hm
    have kp := (kp1.trans kp2).trans kp3
    obtain ⟨kp4, m4⟩ := set_rep (j := j) (v := .int (f n n')) (w := .d (.int (f n n'))) m3 e3' rw2 (by simp [RepW, RepD])
    exact ⟨a, vs', i, j, r1, r2, e3', by rw [← rw2.length]; exact hj, k1 σ _ τ _ (kp.trans kp4) (A.go (kp.trans kp4) m4) qn⟩
end
end D
set_option Elab.async false
set_option linter.all false
set_option maxRecDepth 100000
set_option maxHeartbeats 4000000
namespace D
open PySem PySem.Spec PyProof.Rows L2
section
variable {X : Cx} {K : PySem.W.Frag} {tg : Expr}
def Its (z : Str) : It := ⟨fun i _ => i < z.cps.size, fun i H x H' => H' = H ∧ ∃ c, z.cps[i]? = some c ∧ x = .str ⟨#[c]⟩, fun i _ => z.cps.size ≤ i⟩
theorem turn_str {P : Program} {w : World} {K : PySem.W.Frag} {tg : Expr} (it : Addr) (T : String) (z : Str) (t : Tok)
    (hT : ["enumerate", "zip", "dict_itemiterator", "dict_reverseitemiterator", "odict_iterator", "itertools.zip_longest", "itertools.pairwise"].contains T = false)
    (W : ∀ A : Around, A.handled = none → Walks P w A it [it] [it] z.cps.size (SignAt z) (fun i h => h.IsStrIter it T z t i)) (hself : ∀ (A : Around) (i : Nat) (s : Shared) (Q : Value → Shared → Prop) (E : Value → Shared → Prop), s.heap.IsStrIter it T z t i → Q (.ref it) s → wpAny (model P w) A (pyIter (.ref it)) Q E s)
    (hend : ∀ (A : Around) (i : Nat) (s : Shared) (Q : Option Value → Shared → Prop) (E : Value → Shared → Prop), A.handled = none → s.heap.IsStrIter it T z t i → z.cps[i]? = none → (∀ h', Heap.ExtBut it s.heap h' → Q none { s with heap := h' }) → wpAny (model P w) A (pyNext (.ref it)) Q E s) :
    Turn P w K tg (Its z) [it] it (fun i h => h.IsStrIter it T z t i) where
  mem := by simp
  obj := fun i h st b hb => by
    have e : b = it := by simpa using hb
    subst e
    obtain ⟨o, e, c, d⟩ := st
    exact ⟨o, e, fun v q => by rw [d] at q; cases q⟩
  keep := fun i h h' st k => by
    obtain ⟨o, e, r⟩ := st
    exact ⟨o, k it (by simp) o e, r⟩
  item := by
    intro X hP hw hK hc i pins s σ H E I hf st hg
    subst hP hw hK
    obtain ⟨f0, f1, f2, f3, f4, f5⟩ := hf it (by simp)
    refine (W X.A (I.ok.hd hc)).item i s _ _ hg st fun v h' tk hv st' kk => ?_
    obtain ⟨c, u, hc', rfl⟩ := hv
    have I1 : Inv X pins σ H { s with heap := h', toks := tk } := I.turned (fun b o hb e => kk b o (by simpa using hb) e) f0 f1 f3 f4 f5
    obtain ⟨o, e, cl, d⟩ := id st'
    exact ⟨_, rfl, go_of (s := { s with heap := h', toks := tk }) e cl d hT ⟨.str ⟨#[c]⟩, H, I1, ⟨u, rfl⟩, ⟨rfl, c, hc', rfl⟩, st', fun b hb => (hf b hb).1⟩⟩
  done := by
    intro X hP hw hK hc i pins s σ H E I hf st hg
    subst hP hw hK
    obtain ⟨f0, f1, f2, f3, f4, f5⟩ := hf it (by simp)
    have hn : z.cps.size ≤ i := hg
    exact hend X.A i s _ E (I.ok.hd hc) st (by simp [hn]) fun h' eb => ⟨rfl, I.turned (t' := s.toks) (fun b o hb e => eb b o hb e) f0 f1 f3 f4 f5⟩
  self := hself
section
variable {pins : List (Addr × Obj)} {σ : St} {H : Hp} {s : Shared} {R : It → Hp → Prop} {E : Value → Shared → Prop}
theorem it_str {z : Str} {t : Tok} (I : Inv X pins σ H s) (q : R (Its z) H) : wpAny (model X.prog X.w) X.A (pyIter (.str z t)) (PIE X pins σ tg R) E s := by
  cases ha : z.cps.all (· < 128)
  · refine wpAny_pyIter_wide ha ?_
    refine ⟨s.heap.objs.size, [s.heap.objs.size], _, _, H, rfl, I.kept (t' := s.toks) fun b o e => Heap.get?_push_of_some _ e,
      turn_str _ "str_iterator" z t (by decide) (fun A hA => Walks.strWide hA _ z t) (fun A i s Q E st h => wpAny_pyIter_striter_wide st h) (fun A i s Q E hh st hx hQ => wpAny_pyNext_wide_end hh st hx hQ), ⟨_, Heap.get?_push_size _ rfl, rfl, rfl⟩, fun b hb => ?_, q⟩
    have e : b = s.heap.objs.size := by simpa using hb
    subst e
    exact I.fpOk (Nat.le_refl _) (I.hok.fresh (Nat.le_refl _))
  · refine wpAny_pyIter_ascii ha ?_
    refine ⟨s.heap.objs.size, [s.heap.objs.size], _, _, H, rfl, I.kept (t' := s.toks) fun b o e => Heap.get?_push_of_some _ e,
      turn_str _ "str_ascii_iterator" z t (by decide) (fun A hA => Walks.strAscii hA _ z t) (fun A i s Q E st h => wpAny_pyIter_striter_ascii st h) (fun A i s Q E hh st hx hQ => wpAny_pyNext_ascii_end hh st hx hQ), ⟨_, Heap.get?_push_size _ rfl, rfl, rfl⟩, fun b hb => ?_, q⟩
    have e : b = s.heap.objs.size := by simpa using hb
    subst e
    exact I.fpOk (Nat.le_refl _) (I.hok.fresh (Nat.le_refl _))
theorem it_list {a : Addr} {xs : List V} (I : Inv X pins σ H s) (hq : SqL X.K H a xs) (q : R (Itl X.K a) H) : wpAny (model X.prog X.w) X.A (pyIter (.ref a)) (PIE X pins σ tg R) E s := by
  obtain ⟨its, rv, p, hz⟩ := I.list hq
  refine wpAny_pyIter_list p.isList ?_
  refine ⟨s.heap.objs.size, [s.heap.objs.size], _, _, H, rfl, I.kept (t' := s.toks) fun b o e => Heap.get?_push_of_some _ e, turn_list a _, ⟨_, Heap.get?_push_size _ rfl, rfl, rfl⟩, fun b hb => ?_, q⟩
  have e : b = s.heap.objs.size := by simpa using hb
  subst e
  exact I.fpOk (Nat.le_refl _) (I.hok.fresh (Nat.le_refl _))
theorem it_tup {a : Addr} {xs : List V} (I : Inv X pins σ H s) (hq : SqT X.K H a xs) (q : R (Itt X.K a) H) : wpAny (model X.prog X.w) X.A (pyIter (.ref a)) (PIE X pins σ tg R) E s := by
  obtain ⟨its, rv, p, hz⟩ := I.tuple hq
  refine wpAny_pyIter_tuple (show s.heap.IsTuple a its.toArray from p) ?_
  refine ⟨s.heap.objs.size, [s.heap.objs.size], _, _, H, rfl, I.kept (t' := s.toks) fun b o e => Heap.get?_push_of_some _ e, turn_tuple a _, ⟨_, Heap.get?_push_size _ rfl, rfl, rfl⟩, fun b hb => ?_, q⟩
  have e : b = s.heap.objs.size := by simpa using hb
  subst e
  exact I.fpOk (Nat.le_refl _) (I.hok.fresh (Nat.le_refl _))
end
def iAny (K : PySem.W.Frag) (tl : TE) : TI := fun σ H R => tl σ H fun x H1 => (∃ a xs, x = .ref a ∧ SqL K H1 a xs ∧ R (Itl K a) H1) ∨ (∃ a xs, x = .ref a ∧ SqT K H1 a xs ∧ R (Itt K a) H1) ∨ ∃ z, x = .str z ∧ R (Its z) H1
theorem pi_any {l : Expr} {tl : TE} (hl : PE X l tl) : PI X tg l (iAny X.K tl) := by
  intro pins s σ H R I h
  refine thn (hl pins s σ H _ I h) fun v s1 hq37 => ?_
  obtain ⟨x, H1, I1, r1, q1⟩ := hq37
  rcases q1 with ⟨a, xs, e, hq, q⟩ | ⟨a, xs, e, hq, q⟩ | ⟨z, e, q⟩
  · subst e; cases r1; exact it_list I1 hq q
  · subst e; cases r1; exact it_tup I1 hq q
  · subst e; obtain ⟨t, rfl⟩ := r1; exact it_str I1 q

def ItD (K : PySem.W.Frag) (J : It) (H0 : Hp) (ws : List W) : Prop := ∀ H, Kp H0 H → ∀ i : Nat, (i < ws.length → J.go i H) ∧ (ws.length ≤ i → J.stop i H) ∧
  ∀ x H', i < ws.length → J.yld i H x H' → Kp H H' ∧ (∀ M, MAbs K H M → MAbs K H' M) ∧ ∃ w, ws[i]? = some w ∧ RepW K H' w x
abbrev TId := DS → MH → (List W → MH → Prop) → Prop
def upI (K : PySem.W.Frag) (t : TId) : TI := fun σ H R => ∃ τ M Rd, Abs K H σ τ M ∧ t τ M Rd ∧ ∀ J H' ws M', Kp H H' → MAbs K H' M' → ItD K J H' ws → Rd ws M' → R J H'
abbrev PId (X : Cx) (tg iter : Expr) (t : TId) : Prop := PI X tg iter (upI X.K t)
theorem pi_w {iter : Expr} {t t' : TI} (h : PI X tg iter t) (k : ∀ σ H R, t' σ H R → t σ H R) : PI X tg iter t' := fun pins s σ H R I q => h pins s σ H R I (k σ H R q)
def itemsW : W → Option (List W)
  | .d (.list ds) => some (ds.map W.d)
  | .d (.tuple ds) => some (ds.map W.d)
  | .d (.str z) => some (z.cps.toList.map fun c => W.d (.str ⟨#[c]⟩))
  | _ => none
def dItems (te : TD) (τ : DS) (M : MH) (R : List W → MH → Prop) : Prop := te τ M fun w M1 => ∃ ws, itemsW w = some ws ∧ R ws M1
theorem itd_tup {H : Hp} {a : Addr} {vs : List V} {ds : List PyData} (hs : SqT K H a vs) (ra : RepA K H ds vs) : ItD K (Itt K a) H (ds.map W.d) := fun H1 kp i => by
  have hl := ra.length
  refine ⟨fun hi => ?_, fun hi => ⟨vs, SqT.keep kp hs, by rw [List.length_map] at hi; omega⟩, fun x H' hi y => ?_⟩
  · rw [List.length_map] at hi
    exact ⟨vs, vs[i]'(by omega), SqT.keep kp hs, by simp⟩
  · obtain ⟨e, y⟩ := y
    subst e
    have ev := y vs (SqT.keep kp hs)
    obtain ⟨d, e1, rd⟩ := (ra.keep kp).get' ev
    exact ⟨Kp.refl _, fun M m => m, .d d, by simp [e1], rd⟩
theorem itd_str {H : Hp} (z : Str) : ItD K (Its z) H (z.cps.toList.map fun c => W.d (.str ⟨#[c]⟩)) := fun H1 kp i => by
  refine ⟨fun hi => (show i < z.cps.size by simpa using hi), fun hi => (show z.cps.size ≤ i by simpa using hi), fun x H' hi y => ?_⟩
  obtain ⟨e, c, hc, ex⟩ := y
  subst e; subst ex
  exact ⟨Kp.refl _, fun M m => m, .d (.str ⟨#[c]⟩), by simp [hc], by simp [RepW, RepD]⟩
theorem itd_rng {H : Hp} (lo : Int) (n : Nat) : ItD K (Itr lo n) H ((List.range n).map fun i : Nat => W.d (.int (lo + (i : Int)))) := fun H1 kp i => by
  refine ⟨fun hi => (show i < n by simpa using hi), fun hi => (show n ≤ i by simpa using hi), fun x H' hi y => ?_⟩
  obtain ⟨e, ex⟩ := y
  subst e; subst ex
  simp at hi
  exact ⟨Kp.refl _, fun M m => m, .d (.int (lo + i)), by simp [hi], by simp [RepW, RepD]⟩
theorem pid_items {l : Expr} {te : TD} (h : PD X l te) : PId X tg l (dItems te) := pi_w (pi_any h) fun σ H R hq38 => by
  obtain ⟨τ, M, Rd, A, h, k⟩ := hq38
  refine ⟨τ, M, _, A, h, fun v H1 w M1 kp r m hq39 => ?_⟩
  obtain ⟨ws, e, q⟩ := hq39
  cases w with
  | t n => simp [itemsW] at e
  | m a => simp [itemsW] at e
  | d d =>
    cases d with
    | list ds =>
      simp only [itemsW] at e
      cases e
      simp only [RepW, RepD] at r
      obtain ⟨a, vs, e1, hs, ra⟩ := r
      refine .inl ⟨a, vs, e1, hs.sq, k _ H1 _ M1 kp m ?_ q⟩
      intro H2 kp2 i
      have hl := ra.length
      have hs2 := (hs.keep kp2).sq
      refine ⟨fun hi => ?_, fun hi => ⟨vs, hs2, by rw [List.length_map] at hi; omega⟩, fun x H' hi y => ?_⟩
      · rw [List.length_map] at hi
        exact ⟨vs, vs[i]'(by omega), hs2, by simp⟩
      · obtain ⟨e, y⟩ := y
        subst e
        have ev := y vs hs2
        obtain ⟨d, e1, rd⟩ := (ra.keep kp2).get' ev
        exact ⟨Kp.refl _, fun M m => m, .d d, by simp [e1], rd⟩
    | tuple ds =>
      simp only [itemsW] at e
      cases e
      simp only [RepW, RepD] at r
      obtain ⟨a, vs, e1, hs, ra⟩ := r
      exact .inr (.inl ⟨a, vs, e1, hs, k _ H1 _ M1 kp m (itd_tup hs ra) q⟩)
    | str z =>
      simp only [itemsW] at e
      cases e
      simp only [RepW, RepD] at r
      exact .inr (.inr ⟨z, r, k _ H1 _ M1 kp m (itd_str z) q⟩)
    | _ => simp [itemsW] at e
def rangeW (lo : Int) (n : Nat) : List W := (List.range n).map fun i : Nat => W.d (.int (lo + (i : Int)))
def dRng1 (ta : TAd) (τ : DS) (M : MH) (R : List W → MH → Prop) : Prop := ta τ M fun ws M1 => ∃ j : Int, ws = [.d (.int j)] ∧ -(2 ^ 62) ≤ j ∧ j < 2 ^ 62 ∧ R (rangeW 0 j.toNat) M1
theorem repWs1 {H : Hp} {vs : List V} {w : W} (r : RepWs K H [w] vs) : ∃ v, vs = [v] ∧ RepW K H w v := by
  cases r with
  | cons r1 r2 => cases r2; exact ⟨_, rfl, r1⟩
theorem repWs2 {H : Hp} {vs : List V} {w w' : W} (r : RepWs K H [w, w'] vs) : ∃ v v', vs = [v, v'] ∧ RepW K H w v ∧ RepW K H w' v' := by
  cases r with
  | cons r1 r2 =>
    cases r2 with
    | cons r3 r4 => cases r4; exact ⟨_, _, rfl, r1, r3⟩
theorem pid_range1 {a : Expr} {ta : TAd} {p pos : Pos} (hg : Gl X "range") (hm : X.mg "range" = none) (ha : PAd X [a] ta) (hs : starEach [a] X.env = [(false, eval a X.env)] := by rfl) : PId X tg (.Call (.Name "range" p) [a] [] pos) (dRng1 ta) :=
  pi_w (pi_range1 hg hm ha hs) fun σ H R ⟨τ, M, Rd, A, h, k⟩ => ⟨τ, M, _, A, h, fun vs H1 ws M1 kp r m hq40 => by
    obtain ⟨j, e, h1, h2, q⟩ := hq40
    subst e
    obtain ⟨v, e1, r1⟩ := repWs1 r
    simp only [RepW, RepD] at r1
    subst r1
    exact ⟨j, e1, h1, h2, k _ H1 _ M1 kp m (itd_rng 0 j.toNat) q⟩⟩
def dFor (di : TId) (g : TGd) (tb : TSd) (D : Ed) (τ : DS) (M : MH) : Prop := di τ M fun ws M1 => ∃ P : Nat → DS → MH → Prop, P 0 τ M1 ∧
  (∀ i w τ M, ws[i]? = some w → P i τ M → g w τ M fun τ2 M2 => tb { D with nx := P (i + 1), ct := P (i + 1), bk := D.nx } τ2 M2) ∧ ∀ τ M, P ws.length τ M → D.nx τ M
theorem psd_for {iter : Expr} {body : List Stmt} {di : TId} {g : TGd} {tb : TSd} {pos : Pos} (hp : PassesOwn (model X.prog X.w) X.A X.env X.xe) (hc : X.calm = true) (hi : PId X tg iter di) (hg : PGd X tg g) (hb : PSsd X body tb)
    (hs : ∀ x, foldedSetIterable iter X.env x = pure x := by intro _; rfl) : PSd X (.For tg iter body [] pos) (dFor di g tb) := ps_w (ps_for hp hc hi hg hb hs) fun D σ H hq41 => by
  obtain ⟨τ, M, Dd, A, h, k1, k2, k3, k4⟩ := hq41
  refine ⟨τ, M, _, A, h, fun J H1 ws M1 kp m1 it hq42 => ?_⟩
  obtain ⟨P, p0, pt, pe⟩ := hq42
  refine ⟨fun i n σ H' => n = ws.length - i ∧ i ≤ ws.length ∧ Kp H1 H' ∧ ∃ τ M, Abs X.K H' σ τ M ∧ P i τ M, ⟨ws.length, by simp, Nat.zero_le _, Kp.refl _, τ, M1, A.go kp m1, p0⟩, ?_⟩
  rintro i n σ2 H2 ⟨rfl, hi, kp2, τ2, M2, A2, p2⟩
  obtain ⟨go, stop, yld⟩ := it H2 kp2 i
  by_cases hlt : i < ws.length
  · refine .inr ⟨go hlt, fun σ3 H3 => Kp H2 H3 ∧ ∃ τ M, Abs X.K H3 σ3 τ M ∧ P (i + 1) τ M, fun σ3 H3 ⟨kp3, τ3, M3, A3, p3⟩ => ⟨ws.length - (i + 1), by omega, rfl, hlt, kp2.trans kp3, τ3, M3, A3, p3⟩, fun x H3 y => ?_⟩
    obtain ⟨kp3, mk, w, ew, rw⟩ := yld x H3 hlt y
    refine ⟨w, τ2, M2, _, rw, A2.go kp3 (mk _ A2.mem), pt i w τ2 M2 ew p2, fun σ4 H4 τ4 M4 kp4 A4 q4 => ?_⟩
    have kq := kp3.trans kp4
    have kr := (kp.trans kp2).trans kq
    exact ⟨τ4, M4, _, A4, q4, fun σ5 H5 τ5 M5 kp5 A5 q5 => ⟨kq.trans kp5, τ5, M5, A5, q5⟩, fun v H5 w M5 kp5 => k2 v H5 w M5 (kr.trans kp5), fun σ5 H5 τ5 M5 kp5 => k1 σ5 H5 τ5 M5 (kr.trans kp5), fun σ5 H5 τ5 M5 kp5 A5 q5 => ⟨kq.trans kp5, τ5, M5, A5, q5⟩⟩
  · have hl : i = ws.length := by omega
    subst hl
    exact .inl ⟨stop (Nat.le_refl _), k1 σ2 H2 τ2 M2 (kp.trans kp2) A2 (pe τ2 M2 p2)⟩
def lcSD (k : Nat) (fr : List Nat) (τ : DS) : DS := List.replicate k none ++ fr.map fun j => (τ[j]?).getD none
theorem abs_lc {H : Hp} {σ : St} {τ : DS} {M : MH} (A : Abs K H σ τ M) (k : Nat) (fr : List Nat) : Abs K H (lcS k fr σ) (lcSD k fr τ) M := by
  refine ⟨by simp [lcS, lcSD], fun i w e => ?_, A.mem⟩
  unfold lcSD at e
  by_cases hi : i < k
  · rw [List.getElem?_append_left (by simpa using hi), List.getElem?_replicate] at e
    split at e <;> cases e
  · rw [List.getElem?_append_right (by simpa using hi), List.getElem?_map, List.length_replicate] at e
    cases q : fr[i - k]? with
    | none => rw [q] at e; cases e
    | some j =>
      rw [q] at e
      have e' : (τ[j]?).getD none = some w := Option.some.inj e
      have e2 : τ[j]? = some (some w) := by
        cases z : τ[j]? with
        | none => rw [z] at e'; cases e'
        | some o => rw [z] at e'; exact congrArg some e'
      obtain ⟨v, q1, r⟩ := A.val j w e2
      refine ⟨v, ?_, r⟩
      unfold lcS
      rw [List.getElem?_append_right (by simpa using hi), List.getElem?_map, List.length_replicate, q]
      simp [q1]
def dLC (di : TId) (g : TGd) (tt : TTd) (te : TD) (k : Nat) (fr : List Nat) (τ : DS) (M : MH) (Q : QD) : Prop := di τ M fun ws M1 => ∃ P : Nat → List PyData → DS → MH → Prop, P 0 [] (lcSD k fr τ) M1 ∧
  (∀ i w acc τ M, ws[i]? = some w → P i acc τ M → acc.length < sizeLine ∧ g w τ M fun τ2 M2 => tt τ2 M2 fun b M3 => if b = true then te τ2 M3 fun y M4 => ∃ d, y = .d d ∧ P (i + 1) (acc ++ [d]) τ2 M4 else P (i + 1) acc τ2 M3) ∧
  ∀ acc τ M, P ws.length acc τ M → Q (.d (.list acc)) M
theorem imp_lc {di : TId} {g : TGd} {tt : TTd} {te : TD} {k : Nat} {fr : List Nat} {σ : St} {H : Hp} {Q : VK} (h : up K (dLC di g tt te k fr) σ H Q) :
    tFrz (tLC (upI K di) (upG K g) (upT K tt) (up K te) k fr) σ H Q := by
  obtain ⟨τ, M, Qd, A, h, kk⟩ := h
  refine ⟨τ, M, _, A, h, fun J H1 ws M1 kp m1 it hq43 => ?_⟩
  obtain ⟨P, p0, pt, pe⟩ := hq43
  refine ⟨fun i n ys σ' H' => n = ws.length - i ∧ i ≤ ws.length ∧ Kp H1 H' ∧ ∃ acc τ M, RepA K H' acc ys ∧ Abs K H' σ' τ M ∧ P i acc τ M, ⟨ws.length, by simp, Nat.zero_le _, Kp.refl _, [], _, M1, by simp [RepA], abs_lc (A.go kp m1) k fr, p0⟩, ?_⟩
  rintro i n ys σ2 H2 ⟨rfl, hi, kp2, acc, τ2, M2, ra, A2, p2⟩
  obtain ⟨go, stop, yld⟩ := it H2 kp2 i
  by_cases hlt : i < ws.length
  · have hlen := ra.length
    refine .inr ⟨go hlt, ?_, fun x H3 y => ?_⟩
    · obtain ⟨w, hw⟩ : ∃ w, ws[i]? = some w := ⟨ws[i], by simp [hlt]⟩
      have := (pt i w acc τ2 M2 hw p2).1
      omega
    obtain ⟨kp3, mk, w, ew, rw⟩ := yld x H3 hlt y
    refine ⟨w, τ2, M2, _, rw, A2.go kp3 (mk _ A2.mem), (pt i w acc τ2 M2 ew p2).2, fun σ4 H4 τ4 M4 kp4 A4 q4 => ⟨τ4, M4, _, A4, q4, fun b H5 M5 kp5 m5 q5 => ?_⟩⟩
    have kq := (kp3.trans kp4).trans kp5
    cases b with
    | false =>
      rw [if_neg Bool.false_ne_true] at q5
      show (if false = true then _ else _)
      rw [if_neg Bool.false_ne_true]
      exact ⟨ws.length - (i + 1), by omega, rfl, hlt, kp2.trans kq, acc, τ4, M5, ra.keep kq, A4.go kp5 m5, q5⟩
    | true =>
      rw [if_pos rfl] at q5
      show (if true = true then _ else _)
      rw [if_pos rfl]
      refine ⟨τ4, M5, _, A4.go kp5 m5, q5, fun v H6 wv M6 kp6 r6 m6 hq44 => ?_⟩
      obtain ⟨d, e6, q6⟩ := hq44
      subst e6
      refine ⟨ws.length - (i + 1), by omega, rfl, hlt, kp2.trans (kq.trans kp6), acc ++ [d], τ4, M6, RepA.append (ra.keep (kq.trans kp6)) ?_, A4.go (kp5.trans kp6) m6, q6⟩
      simp only [RepA]
      exact ⟨v, [], rfl, r6, rfl⟩
  · have hl : i = ws.length := by omega
    subst hl
    exact .inl ⟨stop (Nat.le_refl _), fun p hp => imp_frz hp ra A2.mem (pe acc τ2 M2 p2) (kgo kk (kp.trans kp2))⟩
section
variable {sc : Scope} {own : List Str} {fr : List Nat} {elt iter : Expr} {ifs : List Expr} {pos : Pos} {di : TId} {g : TGd} {tt : TTd} {te : TD}
abbrev PTsd (X : Cx) (ifs : List Expr) (t : TTd) : Prop := PTs X ifs (upT X.K t)
def dYes (_ : DS) (M : MH) (Q : Bool → MH → Prop) : Prop := Q true M
theorem ptsd_nil : PTsd X [] dYes := fun pins s σ H Q I ⟨τ, M, Qd, A, q, k⟩ => pts_nil pins s σ H Q I (k true H M (Kp.refl H) A.mem q)
theorem ptsd_one {c : Expr} {t : TTd} (h : PTd X c t) : PTsd X [c] t := pts_one h
theorem pd_lc (hc : X.calm = true) (L : LcOk X sc own fr) (hi : PId X tg iter di)
    (hg : ∀ cl C s H ex pl, PGd (blk X sc (lcN X own fr) cl C s H ex pl) tg g) (ht : ∀ cl C s H ex pl, PTsd (blk X sc (lcN X own fr) cl C s H ex pl) ifs tt) (he : ∀ cl C s H ex pl, PD (blk X sc (lcN X own fr) cl C s H ex pl) elt te)
    (hs : ∀ x, foldedSetIterable iter X.env x = pure x := by intro _; rfl) : PD X (.ListComp elt [⟨tg, iter, ifs, 0⟩] sc pos) (dLC di g tt te own.length fr) :=
  pe_w (pe_frz (pe_lc hc L hi hg ht he hs)) fun σ H Q h => imp_lc h
theorem ps_frz {st : Stmt} {t : TS} (h : PS X st t) : PS X st (fun D σ H => t { D with nx := fun σ' H' => ∃ p u, H' p = some u ∧ Fz u ∧ ∀ o, D.nx σ' (upd H' p (.frz o u)) } σ H) := by
  intro pins s σ H D I hq
  refine thn (h pins s σ H _ I hq) fun f s1 q => ?_
  cases f with
  | next =>
    obtain ⟨σ', H', I', p, u, e, fz, q⟩ := q
    obtain ⟨o, I2⟩ := I'.freeze e fz
    exact ⟨σ', _, I2, q o⟩
  | brk => exact q
  | cont => exact q
  | ret v => exact q
theorem psd_setLC {i : Nat} {x : Str} {pos' spos : Pos} (hN : X.N.Nodup) (hi' : X.N[i]? = some x) (hx : Loc X.env.scope x) (hc : X.calm = true) (L : LcOk X sc own fr) (hi : PId X tg iter di)
    (hg : ∀ cl C s H ex pl, PGd (blk X sc (lcN X own fr) cl C s H ex pl) tg g) (ht : ∀ cl C s H ex pl, PTsd (blk X sc (lcN X own fr) cl C s H ex pl) ifs tt) (he : ∀ cl C s H ex pl, PD (blk X sc (lcN X own fr) cl C s H ex pl) elt te)
    (hsw : swapsWith (.ListComp elt [⟨tg, iter, ifs, 0⟩] sc pos) (some (.Name x pos')) spos.line X.env = pure true := by rfl)
    (hs : ∀ x, foldedSetIterable iter X.env x = pure x := by intro _; rfl) (hf : X.fn x = true ∨ X.env.scope.names.lookup x = some .local := by first | exact .inl rfl | exact .inr rfl | assumption) :
    PSd X (.Assign [.Name x pos'] (.ListComp elt [⟨tg, iter, ifs, 0⟩] sc pos) spos) (dAsg (dLC di g tt te own.length fr) (gN i)) := ps_w (ps_frz (ps_setLC hN hi' hx hc L hi hg ht he hsw hs hf)) fun D σ H hq45 => by
  obtain ⟨τ, M, Dd, A, h, k1, _⟩ := hq45
  have z : up X.K (dLC di g tt te own.length fr) σ H (fun v H' => D.nx (σ.set i (some v)) H') := ⟨τ, M, _, A, h, fun v H1 w M1 kp r m q => k1 _ H1 _ M1 kp ((A.go kp m).set i r) q⟩
  obtain ⟨τ', M', R', A', h', k'⟩ := imp_lc z
  refine ⟨τ', M', R', A', h', fun J H1 ws M1 kp m1 it q => ?_⟩
  obtain ⟨W, w0, st⟩ := k' J H1 ws M1 kp m1 it q
  refine ⟨W, w0, fun i m ys τ H w => ?_⟩
  rcases st i m ys τ H w with ⟨s1, s2⟩ | r
  · refine .inl ⟨s1, fun p hp => ?_⟩
    obtain ⟨p', u, e1, e2, f, q⟩ := s2 p hp
    cases e1
    exact ⟨p, u, e2, f, q⟩
  · exact .inr r
end
end
end D
set_option Elab.async false
set_option linter.all false
set_option maxRecDepth 100000
set_option maxHeartbeats 4000000
namespace D
open PySem PySem.Spec PyProof.Rows L2
section
variable {X : Cx} {K : PySem.W.Frag}
def rdAbs (ws : List W) (M : MH) (Q : QD) : Prop := ∃ i : Int, ws = [.d (.int i)] ∧ Q (.d (.int (if i < 0 then -i else i))) M
theorem cd_abs : CallD K (fun xs H Q => ∃ i, xs = [.int i] ∧ Q (.int (if i < 0 then -i else i)) H) rdAbs := by
  intro vs H ws M Qd Q r m ⟨i, e, q⟩ k
  subst e
  obtain ⟨v, e1, r1⟩ := repWs1 r
  simp only [RepW, RepD] at r1
  subst r1
  exact ⟨i, e1, k _ H (.d (.int _)) M (Kp.refl H) (by simp [RepW, RepD]) m q⟩
def lenW (M : MH) : W → Option Nat
  | .d (.list ds) => some ds.length
  | .d (.tuple ds) => some ds.length
  | .d (.str z) => some z.length
  | .m a => match M a with
    | some (.lst ws) => some ws.length
    | _ => none
  | _ => none
def rdLen (ws : List W) (M : MH) (Q : QD) : Prop := ∃ w n, ws = [w] ∧ lenW M w = some n ∧ fitW w = true ∧ Q (.d (.int (n : Nat))) M
theorem cd_len : CallD K (fun xs H Q => ∃ x n, xs = [x] ∧ LenV K x H n ∧ Q (.int n) H) rdLen := by
  intro vs H ws M Qd Q r m ⟨w, n, e, hn, hf, q⟩ k
  subst e
  obtain ⟨v, e1, r1⟩ := repWs1 r
  refine ⟨v, n, e1, ?_, k _ H (.d (.int _)) M (Kp.refl H) (by simp [RepW, RepD]) m q⟩
  cases w with
  | t _ => simp [lenW] at hn
  | m a =>
    simp only [RepW] at r1
    subst r1
    simp only [lenW] at hn
    cases hm : M a with
    | none => rw [hm] at hn; cases hn
    | some mo =>
      rw [hm] at hn
      cases mo with
      | lst l => cases hn; obtain ⟨us, e2, rw1⟩ := m a _ hm; exact .inl ⟨us, SqL.of e2, rw1.length⟩
      | dic _ => cases hn
      | dct _ => cases hn
      | fdic _ => cases hn
      | ins _ _ => cases hn
      | tup _ => cases hn
      | flst _ => cases hn
      | exc _ _ => cases hn
  | d d =>
    cases d with
    | list ds => simp only [lenW] at hn; cases hn; simp only [RepW, RepD] at r1; obtain ⟨a, us, e2, hs, ra⟩ := r1; subst e2; exact .inl ⟨us, hs.sq, ra.length.symm⟩
    | tuple ds => simp only [lenW] at hn; cases hn; simp only [RepW, RepD] at r1; obtain ⟨a, us, e2, hs, ra⟩ := r1; subst e2; exact .inr ⟨us, hs, ra.length.symm⟩
    | str z => simp only [lenW] at hn; cases hn; simp only [RepW, RepD] at r1; subst r1; exact ⟨of_decide_eq_true hf, rfl⟩
    | _ => simp [lenW] at hn
theorem strs_are {H : Hp} : ∀ {ys : List Str} {vs : List V} {us : List Value}, RepA K H (ys.map PyData.str) vs → Vals vs us → StrsAre us ys
  | [], vs, us, h, r => by simp only [List.map_nil, RepA] at h; subst h; cases r; exact .nil
  | y :: ys, vs, us, h, r => by
    simp only [List.map_cons, RepA] at h
    obtain ⟨v, vr, e, h1, h2⟩ := h
    subst e
    simp only [RepD] at h1
    subst h1
    cases r with
    | cons r1 r2 =>
      obtain ⟨t, e⟩ := (show ∃ t, _ = Value.str y t from r1)
      subst e
      exact .cons _ _ (strs_are h2 r2)
def MtD (K : PySem.W.Frag) (r : V → List V → Hp → VK → Prop) (rd : W → List W → MH → QD → Prop) : Prop := ∀ x vs H w ws M Qd Q, RepW K H w x → RepWs K H ws vs → MAbs K H M → rd w ws M Qd → Kont K H Qd Q → r x vs H Q
def dMS (rd : W → List W → MH → QD → Prop) (to : TD) (t : TAd) (τ : DS) (M : MH) (Q : QD) : Prop := to τ M fun w M1 => (∃ z, w = .d (.str z)) ∧ t τ M1 fun ws M2 => rd w ws M2 Q
theorem pd_ms {o e : Expr} {es : List Expr} {to : TD} {t : TAd} {name : Str} {apos cpos : Pos} {id : String} {r : V → List V → Hp → VK → Prop} {rd : W → List W → MH → QD → Prop} (slot : Slot "str" name id) (hty : typeOf (.builtin id) = pure (.type "method_descriptor")) (hm : MtR X id r) (hd : MtD X.K r rd) (ho : PD X o to) (ha : PAd X (e :: es) t)
    (hbase : attributeBase o name X.env (eval o X.env) = eval o X.env := by rfl)
    (hfew : ((backTo cpos (starEach (e :: es) X.env)).all (fun x => !x.1) && (backToKw cpos (keywordEach [] X.env)).all (fun x => x.1.isSome)
      && decide ((e :: es).length + ([] : List Keyword).length + (if ([] : List Keyword).isEmpty then 0 else 1) < 30)) = true := by rfl)
    (hline : (apos.endLine == cpos.line) = true := by rfl) (hs : starEach (e :: es) X.env = (false, eval e X.env) :: starEach es X.env := by rfl) (hplain : (backTo cpos (starEach es X.env)).any (·.1) = false := by rfl) :
    PD X (.Call (.Attribute o name apos) (e :: es) [] cpos) (dMS rd to t) := pe_w (pe_bm PySem.F.plainAttrs_str slot hty hm ho ha hbase hfew hline hs hplain) fun σ H Q hq46 => by
  obtain ⟨τ, M, Qd, A, h, k⟩ := hq46
  refine ⟨τ, M, _, A, h, fun x H1 w M1 kp1 r1 m1 hq47 => ?_⟩
  obtain ⟨⟨z, ez⟩, q1⟩ := hq47
  subst ez
  have r1' := r1
  simp only [RepW, RepD] at r1'
  subst r1'
  exact ⟨rfl, τ, M1, _, A.go kp1 m1, q1, fun vs H2 ws M2 kp2 r2 m2 q2 => hd _ vs H2 _ ws M2 Qd Q (r1.keep kp2) r2 m2 q2 (kgo k (kp1.trans kp2))⟩
def rJoin (K : PySem.W.Frag) : V → List V → Hp → VK → Prop := fun x vs H Q => ∃ (sep : Str) (v : V) (ys : List Str), x = .str sep ∧ vs = [v] ∧ RepD K H (.list (ys.map PyData.str)) v ∧ (ys.map (·.length)).sum + ys.length * sep.length ≤ 16777216 ∧ Q (.str (Txt.join sep ys)) H
theorem mt_join : MtR X "str.join" (rJoin X.K) := by
  intro pins s σ H x vs v us Q I rx rv h
  obtain ⟨sep, y, ys, rfl, rfl, rd, hz, q⟩ := h
  obtain ⟨t, rfl⟩ := rx
  obtain ⟨u, rfl, ru⟩ := vals1 rv
  simp only [RepD] at rd
  obtain ⟨a, xs, e, hs, ra⟩ := rd
  subst e
  cases (show u = Value.ref a from ru)
  obtain ⟨its, r, pl, hz'⟩ := I.list hs.sq
  exact join_list pl.isList (by simpa using strs_are ra r) hz fun t' k => ⟨.str _, H, I.tok _, ⟨_, rfl⟩, q⟩
def rdJoin (w : W) (ws : List W) (M : MH) (Q : QD) : Prop := ∃ (sep : Str) (ys : List Str), w = .d (.str sep) ∧ ws = [.d (.list (ys.map PyData.str))] ∧ (ys.map (·.length)).sum + ys.length * sep.length ≤ 16777216 ∧ Q (.d (.str (Txt.join sep ys))) M
theorem md_join : MtD K (rJoin K) rdJoin := by
  intro x vs H w ws M Qd Q r1 r2 m ⟨sep, ys, e1, e2, hz, q⟩ k
  subst e1; subst e2
  obtain ⟨v, e3, r3⟩ := repWs1 r2
  simp only [RepW, RepD] at r1
  exact ⟨sep, v, ys, r1, e3, r3, hz, k _ H (.d (.str _)) M (Kp.refl H) (by simp [RepW, RepD]) m q⟩
theorem pd_join {o e : Expr} {to te : TD} {apos cpos : Pos} (ho : PD X o to) (ha : PD X e te)
    (hbase : attributeBase o "join" X.env (eval o X.env) = eval o X.env := by rfl) (hs : starEach [e] X.env = [(false, eval e X.env)] := by rfl)
    (hfew : ((backTo cpos (starEach [e] X.env)).all (fun x => !x.1) && (backToKw cpos (keywordEach [] X.env)).all (fun x => x.1.isSome)
      && decide (([e] : List Expr).length + ([] : List Keyword).length + (if ([] : List Keyword).isEmpty then 0 else 1) < 30)) = true := by rfl)
    (hline : (apos.endLine == cpos.line) = true := by rfl) :
    PD X (.Call (.Attribute o "join" apos) [e] [] cpos) (dMS rdJoin to (dCons te dNil)) := pd_ms PySem.F.slot_str_join PySem.F.type_str_join mt_join md_join ho (pad_cons ha pad_nil hs) hbase hfew hline hs
theorem key_rep {H : Hp} {key : Key} {v : V} (r : RepD K H (keyD key) v) : v = kV key := by
  cases key <;> (simp only [keyD, RepD] at r; exact r)
end
end D
set_option Elab.async false
set_option linter.all false
set_option maxRecDepth 100000
set_option maxHeartbeats 4000000
namespace D
open PySem PySem.Spec PyProof.Rows L2
structure Fn (K : PySem.W.Frag) (mg : Str → Option Value) (x : Str) (st : Stmt) (ps : List Str) (f : Addr) (fd : FuncData) : Prop where
  fn : Fun K x x st f fd
  mg : mg x = some (.ref f)
  bd : Binds K fd ps []
section
variable {K : PySem.W.Frag} {mg : Str → Option Value} {h : Heap}
theorem fn_mk {x : Str} {st : Stmt} {ps : List Str} {f : Addr} {oc : Value} {od an : Option Addr} {osl : Array (Option Value)} {kV doc pm cdv ct : Value} (X : K.In h) (G : h.Ns mainGlobals mg) (a : PySem.W.nsIn K mainGlobals x = some (some (.ref f)))
    (l : K.lookup f = some ⟨oc, od, .func (PySem.W.fnOf x x (defArgs st) (defBody st) (defScope st) .none kV doc pm an cdv ct), osl⟩) (c : PySem.W.codeIn K cdv x = true) (k : PySem.W.keepIn K (.ref f) = true)
    (b : ∀ (kV doc pm : Value) (an : Option Addr) (cdv ct : Value) (us : List Value), us.length = ps.length → bindArgs (PySem.W.fnOf x x (defArgs st) (defBody st) (defScope st) .none kV doc pm an cdv ct) ⟨us, []⟩ = pure (ps.zip us)) :
    Fn K mg x st ps f (PySem.W.fnOf x x (defArgs st) (defBody st) (defScope st) .none kV doc pm an cdv ct) :=
  have F := fun_mk (st := st) l c k
  ⟨F, PySem.W.mg_of X G a, F.binds b⟩
end
def lcOkB (sc scX : Scope) (N : List Str) (fr : List Nat) : Bool :=
  (sc.kind == .function) && sc.names.all (fun y => !(y.2 == .cell)) && sc.names.all (fun y => !(y.2 == .free) || scX.names.lookup y.1 == some .cell || scX.names.lookup y.1 == some .free) &&
    sc.names.all (fun y => !(y.2 == .local) || sc.names.lookup y.1 == some .local) && frOk N sc fr
theorem lcOk {X : Cx} {sc : Scope} {own : List Str} {fr : List Nat} (h : lcOkB sc X.env.scope X.N fr = true) : LcOk X sc own fr := by
  simp only [lcOkB, Bool.and_eq_true] at h
  obtain ⟨⟨⟨⟨h1, h2⟩, h3⟩, h4⟩, h5⟩ := h
  refine ⟨eq_of_beq h1, fun y hy e => ?_, fun y hy e => ?_, fun y hy e => ?_, h5⟩
  · have := List.all_eq_true.mp h2 y hy
    simp [e] at this
  · have := List.all_eq_true.mp h3 y hy
    simp only [e, beq_self_eq_true, Bool.not_true, Bool.false_or, Bool.or_eq_true] at this
    rcases this with z | z
    · exact .inl (eq_of_beq z)
    · exact .inr (eq_of_beq z)
  · have := List.all_eq_true.mp h4 y hy
    simp only [e, beq_self_eq_true, Bool.not_true, Bool.false_or] at this
    exact eq_of_beq this
theorem bt_int : bootBuiltins "int" = some (.type "int") := by decide +kernel
theorem bb_len : bootBuiltins "len" = some (.builtin "len") := by decide +kernel
theorem bb_abs : bootBuiltins "abs" = some (.builtin "abs") := by decide +kernel
end D
set_option Elab.async false
set_option linter.all false
set_option maxRecDepth 100000
set_option maxHeartbeats 4000000
namespace D
open PySem PySem.Spec PyProof.Rows L2
def isSt : Expr → Bool
  | .Starred .. => true
  | _ => false
theorem star_ok (e : Expr) (es : List Expr) (env : PySem.Env) (h : isSt e = false) : starEach (e :: es) env = (false, eval e env) :: starEach es env := by
  cases e <;> first | rfl | (exact absurd h (by simp [isSt]))
theorem plain_ok (pos : Pos) (env : PySem.Env) : ∀ es : List Expr, (es.all fun e => !isSt e) = true → (backTo pos (starEach es env)).any (·.1) = false
  | [], _ => rfl
  | e :: es, h => by
    rw [List.all_cons, Bool.and_eq_true, Bool.not_eq_true'] at h
    rw [star_ok e es env h.1]
    show (false || (backTo pos (starEach es env)).any (·.1)) = false
    rw [plain_ok pos env es h.2]
    rfl
section
variable {X : Cx} {pos p : Pos} {e : Expr} {es : List Expr} {te : TD} {t : TAd} {x : Str} {id T : String} {r : List V → Hp → VK → Prop} {rd : List W → MH → QD → Prop} {k : Nat} {f : Addr} {fd : FuncData} {ps : List Str} {sp : SpD}
theorem pac (ha : PD X e te) (hr : PAd X es t) (h : isSt e = false := by rfl) : PAd X (e :: es) (dCons te t) := pad_cons ha hr (star_ok e es X.env h)
theorem pcB (hc : CallR X (.builtin id) r) (hd : CallD X.K r rd) (hg : Gl X x) (hm : X.mg x = none) (hv : bootBuiltins x = some (.builtin id)) (ha : PAd X (e :: es) t) (hn : x ≠ "__name__" := by decide) (hdb : (x == ("__debug__" : Str)) = false := by decide)
    (h1 : isSt e = false := by rfl) (h2 : (es.all fun e => !isSt e) = true := by rfl) : PD X (.Call (.Name x p) (e :: es) [] pos) (dCB rd t) := pd_callB hc hd hg hm hv ha hn hdb (star_ok e es X.env h1) (plain_ok pos X.env es h2)
theorem pcF (F : FnOk X.prog X.w X.K X.mg X.base CX0 k f fd ps (upSp X.K sp)) (hr : Room k X.A) (hg : Gl X x) (hm : X.mg x = some (.ref f)) (hk : PySem.W.keepIn X.K (.ref f) = true) (hb : Binds X.K fd ps [])
    (ha : PAd X (e :: es) t) (hdb : (x == ("__debug__" : Str)) = false := by decide) (h1 : isSt e = false := by rfl) (h2 : (es.all fun e => !isSt e) = true := by rfl) :
    PD X (.Call (.Name x p) (e :: es) [] pos) (dCall sp t) := pd_call F hr hg hm hk hb ha hdb (star_ok e es X.env h1) (plain_ok pos X.env es h2)
end
end D
set_option Elab.async false
set_option linter.all false
set_option maxRecDepth 100000
set_option maxHeartbeats 4000000
namespace D
open PySem PySem.Spec PyProof.Rows L2
structure Jd (p : Prop) : Prop where
  h : p
namespace Q
abbrev pm (K : PySem.W.Frag) (p : TD × TD) : TE × TE := (up K p.1, up K p.2)
section
variable {X : Cx} {pos : Pos} {a b c e : Expr} {ta tb tc te : TD} {K : PySem.W.Frag}
theorem pd_var {i : Nat} (h : PE X e (tVar i)) : Jd (PD X e (dVar i)) := ⟨D.pd_var (h := h)⟩
theorem dv (i : Nat) {x : Str} {pos : Pos} (hN : X.N[i]? = some x := by rfl) (hv : Vis X.env.scope x := by first | exact Or.inl rfl | exact Or.inr (Or.inl rfl) | exact Or.inr (Or.inr rfl)) (hd : (x == ("__debug__" : Str)) = false := by decide) (hcd : (x == ("__classdict__" : Str)) = false := by decide) : Jd (PD X (.Name x pos) (dVar i)) := ⟨D.dv (i := i) (hN := hN) (hv := hv) (hd := hd) (hcd := hcd)⟩
theorem pd_c {v : V} {w : W} (h : PE X e (tC v)) (r : ∀ H, RepW X.K H w v) : Jd (PD X e (dC w)) := ⟨D.pd_c (h := h) (r := r)⟩
theorem pd_int {i j pos} : Jd (PD X (.Constant (.int i) j pos) (dC (.d (.int i)))) := ⟨D.pd_int ⟩
theorem pd_bl {b j pos} : Jd (PD X (.Constant (.bool b) j pos) (dC (.d (.bool b)))) := ⟨D.pd_bl ⟩
theorem pd_non {j pos} : Jd (PD X (.Constant .none j pos) (dC (.d .none))) := ⟨D.pd_non ⟩
theorem pd_str {x j pos} : Jd (PD X (.Constant (.str x) j pos) (dC (.d (.str x)))) := ⟨D.pd_str ⟩
theorem pd_globI {x : Str} {i : Int} {t : Tok} {pos : Pos} (hg : Gl X x) (hm : X.mg x = some (.int i t)) (hd : (x == ("__debug__" : Str)) = false := by decide) : Jd (PD X (.Name x pos) (dC (.d (.int i)))) := ⟨D.pd_globI (hg := hg) (hm := hm) (hd := hd)⟩
theorem pd_op {op : Operator} {r : R2} {rd : W → W → MH → QD → Prop} (ho : OpR X (binaryOp op) r) (hd : OpD X.K r rd) (ha : Jd (PD X a ta)) (hb : Jd (PD X b tb)) : Jd (PD X (.BinOp a op b pos) (dOp rd ta tb)) := ⟨D.pd_op (ho := ho) (hd := hd) (ha := ha.h) (hb := hb.h)⟩
theorem pd_cmp {op : CmpOp} {r : R2} {rd : W → W → MH → QD → Prop} (ho : OpR X (compareOp op) r) (hd : OpD X.K r rd) (ha : Jd (PD X a ta)) (hb : Jd (PD X b tb)) (hm : behindInMarks op b = false := by first | exact nobehind _ (by decide) (by decide) | rfl) : Jd (PD X (.Compare a [op] [b] pos) (dOp rd ta tb)) := ⟨D.pd_cmp (ho := ho) (hd := hd) (ha := ha.h) (hb := hb.h) (hm := hm)⟩
theorem pd_ix {r : R2} {rd : W → W → MH → QD → Prop} (hr : IxR X r) (hd : OpD X.K r rd) (ha : Jd (PD X a ta)) (hb : Jd (PD X b tb)) (hs : PlainIx b := by intro _ _; rfl) : Jd (PD X (.Subscript a b pos) (dOp rd ta tb)) := ⟨D.pd_ix (hr := hr) (hd := hd) (ha := ha.h) (hb := hb.h) (hs := hs)⟩
theorem ptd_cmp {op : CmpOp} {r : R2} {rd : W → W → MH → QD → Prop} (ho : OpR X (compareOp op) r) (hd : OpD X.K r rd) (ha : Jd (PD X a ta)) (hb : Jd (PD X b tb)) (hm : behindInMarks op b = false := by first | exact nobehind _ (by decide) (by decide) | rfl) : Jd (PTd X (.Compare a [op] [b] pos) (dTest (dOp rd ta tb))) := ⟨D.ptd_cmp (ho := ho) (hd := hd) (ha := ha.h) (hb := hb.h) (hm := hm)⟩
theorem ptd_val (h : Jd (PD X e te)) (he : ∀ whole, isTrue e X.env whole = (do let v ← whole; standAt e.pos; holding [v] (truthy v)) := by intro _; rfl) : Jd (PTd X e (dTest te)) := ⟨D.ptd_val (h := h.h) (he := he)⟩
theorem pd_un {op : UnaryOp} {r : V → Hp → VK → Prop} {rd : W → MH → QD → Prop} (ho : UnR X (unaryOp op) r) (hd : UnD X.K r rd) (ha : Jd (PD X a ta)) : Jd (PD X (.UnaryOp op a pos) (dUn rd ta)) := ⟨D.pd_un (ho := ho) (hd := hd) (ha := ha.h)⟩
variable {tA tB : TTd} {rest : List Expr}
theorem pwd_and1 (ha : Jd (PTd X a tA)) : Jd (PWd X (.BoolOp .And [a] pos) tA) := ⟨D.pwd_and1 (ha := ha.h)⟩
theorem pwd_or1 (ha : Jd (PTd X a tA)) : Jd (PWd X (.BoolOp .Or [a] pos) tA) := ⟨D.pwd_or1 (ha := ha.h)⟩
theorem pwd_and (ha : Jd (PTd X a tA)) (hb : Jd (PWd X (.BoolOp .And (b :: rest) pos) tB)) : Jd (PWd X (.BoolOp .And (a :: b :: rest) pos) (dAnd tA tB)) := ⟨D.pwd_and (ha := ha.h) (hb := hb.h)⟩
theorem pwd_or (ha : Jd (PTd X a tA)) (hb : Jd (PWd X (.BoolOp .Or (b :: rest) pos) tB)) : Jd (PWd X (.BoolOp .Or (a :: b :: rest) pos) (dOr tA tB)) := ⟨D.pwd_or (ha := ha.h) (hb := hb.h)⟩
theorem ptd_w (h : Jd (PWd X e tA)) : Jd (PTd X e tA) := ⟨D.ptd_w (h := h.h)⟩
theorem ptd_not (ha : Jd (PTd X a tA)) : Jd (PTd X (.UnaryOp .Not a pos) (dNot tA)) := ⟨D.ptd_not (ha := ha.h)⟩
variable {es : List Expr} {t : TAd}
theorem pad_nil  : Jd (PAd X [] dNil) := ⟨D.pad_nil ⟩
theorem pad_cons (ha : Jd (PD X e te)) (hr : Jd (PAd X es t)) (hs : starEach (e :: es) X.env = (false, eval e X.env) :: starEach es X.env := by rfl) : Jd (PAd X (e :: es) (dCons te t)) := ⟨D.pad_cons (ha := ha.h) (hr := hr.h) (hs := hs)⟩
theorem pd_lst (h : Jd (PAd X es t)) : Jd (PD X (.List es pos) (dLst t)) := ⟨D.pd_lst (h := h.h)⟩
theorem pd_lstM (h : Jd (PAd X es t)) : Jd (PD X (.List es pos) (dLstM t)) := ⟨D.pd_lstM (h := h.h)⟩
theorem pd_tup {x1} (h : Jd (PAd X es t)) : Jd (PD X (.Tuple es x1 pos) (dTup t)) := ⟨D.pd_tup (h := h.h)⟩
variable {x : Str} {p : Pos} {id T : String} {r : List V → Hp → VK → Prop} {rd : List W → MH → QD → Prop}
theorem pd_callB (hc : CallR X (.builtin id) r) (hd : CallD X.K r rd) (hg : Gl X x) (hm : X.mg x = none) (hv : bootBuiltins x = some (.builtin id)) (ha : Jd (PAd X (e :: es) t)) (hn : x ≠ "__name__" := by decide) (hdb : (x == ("__debug__" : Str)) = false := by decide) (he : starEach (e :: es) X.env = (false, eval e X.env) :: starEach es X.env := by rfl) (hpl : (backTo pos (starEach es X.env)).any (·.1) = false := by rfl) : Jd (PD X (.Call (.Name x p) (e :: es) [] pos) (dCB rd t)) := ⟨D.pd_callB (hc := hc) (hd := hd) (hg := hg) (hm := hm) (hv := hv) (ha := ha.h) (hn := hn) (hdb := hdb) (he := he) (hpl := hpl)⟩
theorem pd_callTy (hc : CallR X (.type T) r) (hd : CallD X.K r rd) (hg : Gl X x) (hm : X.mg x = none) (hv : bootBuiltins x = some (.type T)) (ha : Jd (PAd X (e :: es) t)) (hn : x ≠ "__name__" := by decide) (hdb : (x == ("__debug__" : Str)) = false := by decide) (he : starEach (e :: es) X.env = (false, eval e X.env) :: starEach es X.env := by rfl) (hpl : (backTo pos (starEach es X.env)).any (·.1) = false := by rfl) : Jd (PD X (.Call (.Name x p) (e :: es) [] pos) (dCB rd t)) := ⟨D.pd_callTy (hc := hc) (hd := hd) (hg := hg) (hm := hm) (hv := hv) (ha := ha.h) (hn := hn) (hdb := hdb) (he := he) (hpl := hpl)⟩
end
section
variable {X : Cx} {pos : Pos} {st : Stmt} {sts : List Stmt} {t u : TSd} {e : Expr} {te : TD} {K : PySem.W.Frag}
theorem pssd_nil  : Jd (PSsd X [] dNext) := ⟨D.pssd_nil ⟩
theorem pssd_cons (h1 : Jd (PSd X st t)) (h2 : Jd (PSsd X sts u)) : Jd (PSsd X (st :: sts) (dSeq t u)) := ⟨D.pssd_cons (h1 := h1.h) (h2 := h2.h)⟩
theorem pssd_one (h1 : Jd (PSd X st t)) : Jd (PSsd X [st] t) := ⟨D.pssd_one (h1 := h1.h)⟩
theorem psd_expr (he : Jd (PD X e te)) (hs : swapsWith e none pos.line X.env = pure false := by rfl) : Jd (PSd X (.Expr e pos) (dDrop te)) := ⟨D.psd_expr (he := he.h) (hs := hs)⟩
theorem psd_ret (he : Jd (PD X e te)) : Jd (PSd X (.Return (some e) pos) (dRet te)) := ⟨D.psd_ret (he := he.h)⟩
theorem psd_if {c : Expr} {a b : List Stmt} {tc : TTd} (hc : Jd (PTd X c tc)) (ha : Jd (PSsd X a t)) (hb : Jd (PSsd X b u)) : Jd (PSd X (.If c a b pos) (dIf tc t u)) := ⟨D.psd_if (hc := hc.h) (ha := ha.h) (hb := hb.h)⟩
theorem pgd_name {i : Nat} {x : Str} (hN : X.N.Nodup) (hi : X.N[i]? = some x) (hx : Loc X.env.scope x) (hf : X.fn x = true ∨ X.env.scope.names.lookup x = some .local := by first | exact .inl rfl | exact .inr rfl | assumption) : Jd (PGd X (.Name x pos) (gN i)) := ⟨D.pgd_name (hN := hN) (hi := hi) (hx := hx) (hf := hf)⟩
theorem psd_asg {tg : Expr} {g : TGd} (he : Jd (PD X e te)) (hg : Jd (PGd X tg g)) (hs : swapsWithSole [tg] e pos.line X.env = pure false := by rfl) (hw : swappedStores [tg] e X.env = pure none := by rfl) (h1 : (assignEach [tg] X.env).map (·.2) = [assign tg X.env] := by rfl) : Jd (PSd X (.Assign [tg] e pos) (dAsg te g)) := ⟨D.psd_asg (he := he.h) (hg := hg.h) (hs := hs) (hw := hw) (h1 := h1)⟩
theorem psd_set {i : Nat} {x : Str} {pos' : Pos} (hN : X.N.Nodup) (hi : X.N[i]? = some x) (hx : Loc X.env.scope x) (he : Jd (PD X e te)) (hs : swapsWith e (some (.Name x pos')) pos.line X.env = pure false := by rfl) (hf : X.fn x = true ∨ X.env.scope.names.lookup x = some .local := by first | exact .inl rfl | exact .inr rfl | assumption) : Jd (PSd X (.Assign [.Name x pos'] e pos) (dAsg te (gN i))) := ⟨D.psd_set (hN := hN) (hi := hi) (hx := hx) (he := he.h) (hs := hs) (hf := hf)⟩
end
section
variable {X : Cx} {pos p : Pos} {k : Nat} {f : Addr} {fd : FuncData} {ps : List Str} {sp : SpD} {x : Str} {e : Expr} {es : List Expr} {t : TAd}
theorem pd_call (F : FnOk X.prog X.w X.K X.mg X.base CX0 k f fd ps (upSp X.K sp)) (hr : Room k X.A) (hg : Gl X x) (hm : X.mg x = some (.ref f)) (hk : PySem.W.keepIn X.K (.ref f) = true) (hb : Binds X.K fd ps []) (ha : Jd (PAd X (e :: es) t)) (hdb : (x == ("__debug__" : Str)) = false := by decide) (he : starEach (e :: es) X.env = (false, eval e X.env) :: starEach es X.env := by rfl) (hpl : (backTo pos (starEach es X.env)).any (·.1) = false := by rfl) : Jd (PD X (.Call (.Name x p) (e :: es) [] pos) (dCall sp t)) := ⟨D.pd_call (F := F) (hr := hr) (hg := hg) (hm := hm) (hk := hk) (hb := hb) (ha := ha.h) (hdb := hdb) (he := he) (hpl := hpl)⟩
end
section
variable {P : Program} {w : World} {K : PySem.W.Frag} {mg : Str → Option Value} {base : Heap}
end
section
variable {X : Cx} {K : PySem.W.Frag}
theorem pod_none  : Jd (POd X none dNoPart) := ⟨D.pod_none ⟩
theorem pod_some {e : Expr} {te : TD} (h : Jd (PD X e te)) : Jd (POd X (some e) (dPart te)) := ⟨D.pod_some (h := h.h)⟩
theorem pd_slice {e : Expr} {te : TD} {lo hi : Option Expr} {tl th : TOd} {pos p2 : Pos} (he : Jd (PD X e te)) (hl : Jd (POd X lo tl)) (hu : Jd (POd X hi th)) : Jd (PD X (.Subscript e (.Slice lo hi none p2) pos) (dSl te tl th)) := ⟨D.pd_slice (he := he.h) (hl := hl.h) (hu := hu.h)⟩
theorem pgd_sub {o i : Expr} {to ti : TD} {pos : Pos} (ho : Jd (PD X o to)) (hi : Jd (PD X i ti)) (ha : ∀ v, assign (.Subscript o i pos) X.env v = (do
      let ov ← holding [v] (eval o X.env)
      let iv ← holding [v, ov] (eval i X.env)
      standAt pos
      holding [v, ov, iv] (setItem ov iv v)
      release [v, ov, iv] []) := by intro _; rfl) : Jd (PGd X (.Subscript o i pos) (gSet to ti)) := ⟨D.pgd_sub (ho := ho.h) (hi := hi.h) (ha := ha)⟩
theorem psd_augS {o i e : Expr} {to ti te : TD} {op : Operator} {f : Int → Int → Int} {pos tpos : Pos} (ho : Jd (PD X o to)) (hi : Jd (PD X i ti)) (he : Jd (PD X e te)) (hp : PIp X op (ipI f)) (ha : ∀ ov iv new, augStore i ov iv new = (do holding [new, ov, iv] (setItem ov iv new); release [new, ov, iv] []; pure .next) := by intros; rfl) : Jd (PSd X (.AugAssign (.Subscript o i tpos) op e pos) (dAugS to ti te f)) := ⟨D.psd_augS (ho := ho.h) (hi := hi.h) (he := he.h) (hp := hp) (ha := ha)⟩
end
section
variable {X : Cx} {K : PySem.W.Frag} {tg : Expr}
section
variable {pins : List (Addr × Obj)} {σ : St} {H : Hp} {s : Shared} {R : It → Hp → Prop} {E : Value → Shared → Prop}
end
theorem pid_items {l : Expr} {te : TD} (h : Jd (PD X l te)) : Jd (PId X tg l (dItems te)) := ⟨D.pid_items (h := h.h)⟩
theorem pid_range1 {a : Expr} {ta : TAd} {p pos : Pos} (hg : Gl X "range") (hm : X.mg "range" = none) (ha : Jd (PAd X [a] ta)) (hs : starEach [a] X.env = [(false, eval a X.env)] := by rfl) : Jd (PId X tg (.Call (.Name "range" p) [a] [] pos) (dRng1 ta)) := ⟨D.pid_range1 (hg := hg) (hm := hm) (ha := ha.h) (hs := hs)⟩
theorem psd_for {iter : Expr} {body : List Stmt} {di : TId} {g : TGd} {tb : TSd} {pos : Pos} (hp : PassesOwn (model X.prog X.w) X.A X.env X.xe) (hc : X.calm = true) (hi : Jd (PId X tg iter di)) (hg : Jd (PGd X tg g)) (hb : Jd (PSsd X body tb)) (hs : ∀ x, foldedSetIterable iter X.env x = pure x := by intro _; rfl) : Jd (PSd X (.For tg iter body [] pos) (dFor di g tb)) := ⟨D.psd_for (hp := hp) (hc := hc) (hi := hi.h) (hg := hg.h) (hb := hb.h) (hs := hs)⟩
section
variable {sc : Scope} {own : List Str} {fr : List Nat} {elt iter : Expr} {ifs : List Expr} {pos : Pos} {di : TId} {g : TGd} {tt : TTd} {te : TD}
theorem ptsd_nil  : Jd (PTsd X [] dYes) := ⟨D.ptsd_nil ⟩
theorem ptsd_one {c : Expr} {t : TTd} (h : Jd (PTd X c t)) : Jd (PTsd X [c] t) := ⟨D.ptsd_one (h := h.h)⟩
theorem pd_lc (hc : X.calm = true) (L : LcOk X sc own fr) (hi : Jd (PId X tg iter di)) (hg : ∀ cl C s H ex pl, Jd (PGd (blk X sc (lcN X own fr) cl C s H ex pl) tg g)) (ht : ∀ cl C s H ex pl, Jd (PTsd (blk X sc (lcN X own fr) cl C s H ex pl) ifs tt)) (he : ∀ cl C s H ex pl, Jd (PD (blk X sc (lcN X own fr) cl C s H ex pl) elt te)) (hs : ∀ x, foldedSetIterable iter X.env x = pure x := by intro _; rfl) : Jd (PD X (.ListComp elt [⟨tg, iter, ifs, 0⟩] sc pos) (dLC di g tt te own.length fr)) := ⟨D.pd_lc (hc := hc) (L := L) (hi := hi.h) (hg := fun cl C s H ex pl => (hg cl C s H ex pl).h) (ht := fun cl C s H ex pl => (ht cl C s H ex pl).h) (he := fun cl C s H ex pl => (he cl C s H ex pl).h) (hs := hs)⟩
theorem psd_setLC {i : Nat} {x : Str} {pos' spos : Pos} (hN : X.N.Nodup) (hi' : X.N[i]? = some x) (hx : Loc X.env.scope x) (hc : X.calm = true) (L : LcOk X sc own fr) (hi : Jd (PId X tg iter di)) (hg : ∀ cl C s H ex pl, Jd (PGd (blk X sc (lcN X own fr) cl C s H ex pl) tg g)) (ht : ∀ cl C s H ex pl, Jd (PTsd (blk X sc (lcN X own fr) cl C s H ex pl) ifs tt)) (he : ∀ cl C s H ex pl, Jd (PD (blk X sc (lcN X own fr) cl C s H ex pl) elt te)) (hsw : swapsWith (.ListComp elt [⟨tg, iter, ifs, 0⟩] sc pos) (some (.Name x pos')) spos.line X.env = pure true := by rfl) (hs : ∀ x, foldedSetIterable iter X.env x = pure x := by intro _; rfl) (hf : X.fn x = true ∨ X.env.scope.names.lookup x = some .local := by first | exact .inl rfl | exact .inr rfl | assumption) : Jd (PSd X (.Assign [.Name x pos'] (.ListComp elt [⟨tg, iter, ifs, 0⟩] sc pos) spos) (dAsg (dLC di g tt te own.length fr) (gN i))) := ⟨D.psd_setLC (hN := hN) (hi' := hi') (hx := hx) (hc := hc) (L := L) (hi := hi.h) (hg := fun cl C s H ex pl => (hg cl C s H ex pl).h) (ht := fun cl C s H ex pl => (ht cl C s H ex pl).h) (he := fun cl C s H ex pl => (he cl C s H ex pl).h) (hsw := hsw) (hs := hs) (hf := hf)⟩
end
end
section
variable {X : Cx} {K : PySem.W.Frag}
theorem pd_ms {o e : Expr} {es : List Expr} {to : TD} {t : TAd} {name : Str} {apos cpos : Pos} {id : String} {r : V → List V → Hp → VK → Prop} {rd : W → List W → MH → QD → Prop} (slot : Slot "str" name id) (hty : typeOf (.builtin id) = pure (.type "method_descriptor")) (hm : MtR X id r) (hd : MtD X.K r rd) (ho : Jd (PD X o to)) (ha : Jd (PAd X (e :: es) t)) (hbase : attributeBase o name X.env (eval o X.env) = eval o X.env := by rfl) (hfew : ((backTo cpos (starEach (e :: es) X.env)).all (fun x => !x.1) && (backToKw cpos (keywordEach [] X.env)).all (fun x => x.1.isSome)
      && decide ((e :: es).length + ([] : List Keyword).length + (if ([] : List Keyword).isEmpty then 0 else 1) < 30)) = true := by rfl) (hline : (apos.endLine == cpos.line) = true := by rfl) (hs : starEach (e :: es) X.env = (false, eval e X.env) :: starEach es X.env := by rfl) (hplain : (backTo cpos (starEach es X.env)).any (·.1) = false := by rfl) : Jd (PD X (.Call (.Attribute o name apos) (e :: es) [] cpos) (dMS rd to t)) := ⟨D.pd_ms (slot := slot) (hty := hty) (hm := hm) (hd := hd) (ho := ho.h) (ha := ha.h) (hbase := hbase) (hfew := hfew) (hline := hline) (hs := hs) (hplain := hplain)⟩
theorem pd_join {o e : Expr} {to te : TD} {apos cpos : Pos} (ho : Jd (PD X o to)) (ha : Jd (PD X e te)) (hbase : attributeBase o "join" X.env (eval o X.env) = eval o X.env := by rfl) (hs : starEach [e] X.env = [(false, eval e X.env)] := by rfl) (hfew : ((backTo cpos (starEach [e] X.env)).all (fun x => !x.1) && (backToKw cpos (keywordEach [] X.env)).all (fun x => x.1.isSome)
      && decide (([e] : List Expr).length + ([] : List Keyword).length + (if ([] : List Keyword).isEmpty then 0 else 1) < 30)) = true := by rfl) (hline : (apos.endLine == cpos.line) = true := by rfl) : Jd (PD X (.Call (.Attribute o "join" apos) [e] [] cpos) (dMS rdJoin to (dCons te dNil))) := ⟨D.pd_join (ho := ho.h) (ha := ha.h) (hbase := hbase) (hs := hs) (hfew := hfew) (hline := hline)⟩
end
section
variable {X : Cx} {pos p : Pos} {e : Expr} {es : List Expr} {te : TD} {t : TAd} {x : Str} {id T : String} {r : List V → Hp → VK → Prop} {rd : List W → MH → QD → Prop} {k : Nat} {f : Addr} {fd : FuncData} {ps : List Str} {sp : SpD}
theorem pac (ha : Jd (PD X e te)) (hr : Jd (PAd X es t)) (h : isSt e = false := by rfl) : Jd (PAd X (e :: es) (dCons te t)) := ⟨D.pac (ha := ha.h) (hr := hr.h) (h := h)⟩
theorem pcB (hc : CallR X (.builtin id) r) (hd : CallD X.K r rd) (hg : Gl X x) (hm : X.mg x = none) (hv : bootBuiltins x = some (.builtin id)) (ha : Jd (PAd X (e :: es) t)) (hn : x ≠ "__name__" := by decide) (hdb : (x == ("__debug__" : Str)) = false := by decide) (h1 : isSt e = false := by rfl) (h2 : (es.all fun e => !isSt e) = true := by rfl) : Jd (PD X (.Call (.Name x p) (e :: es) [] pos) (dCB rd t)) := ⟨D.pcB (hc := hc) (hd := hd) (hg := hg) (hm := hm) (hv := hv) (ha := ha.h) (hn := hn) (hdb := hdb) (h1 := h1) (h2 := h2)⟩
theorem pcF (F : FnOk X.prog X.w X.K X.mg X.base CX0 k f fd ps (upSp X.K sp)) (hr : Room k X.A) (hg : Gl X x) (hm : X.mg x = some (.ref f)) (hk : PySem.W.keepIn X.K (.ref f) = true) (hb : Binds X.K fd ps []) (ha : Jd (PAd X (e :: es) t)) (hdb : (x == ("__debug__" : Str)) = false := by decide) (h1 : isSt e = false := by rfl) (h2 : (es.all fun e => !isSt e) = true := by rfl) : Jd (PD X (.Call (.Name x p) (e :: es) [] pos) (dCall sp t)) := ⟨D.pcF (F := F) (hr := hr) (hg := hg) (hm := hm) (hk := hk) (hb := hb) (ha := ha.h) (hdb := hdb) (h1 := h1) (h2 := h2)⟩
end
end Q
end D
set_option Elab.async false
set_option linter.all false
set_option maxRecDepth 100000
set_option maxHeartbeats 4000000
namespace D
open PySem PySem.Spec PyProof.Rows L2
@[simp] theorem eqOk2_int (i j : Int) : eqOk2 (.int i) (.int j) = true := rfl
@[simp] theorem eqOk2_str (x y : Str) : eqOk2 (.str x) (.str y) = true := rfl
@[simp] theorem eqOk2_bool (x y : Bool) : eqOk2 (.bool x) (.bool y) = true := rfl
@[simp] theorem eqv_int (i j : Int) : PyData.eqv (.int i) (.int j) = (i == j) := by rw [PyData.eqv]
@[simp] theorem eqv_str (i j : Str) : PyData.eqv (.str i) (.str j) = (i == j) := by rw [PyData.eqv]
@[simp] theorem fitW_m (a : Addr) : fitW (.m a) = true := rfl
@[simp] theorem fitW_list (ds : List PyData) : fitW (.d (.list ds)) = true := rfl
@[simp] theorem fitW_tuple (ds : List PyData) : fitW (.d (.tuple ds)) = true := rfl
@[simp] theorem ixN_zero (n : Nat) : ixN (n + 1) 0 = some 0 := by unfold ixN; simp
theorem atI_nn {α : Type} {xs : List α} {i : Int} (h0 : 0 ≤ i) (h1 : i < xs.length) : atI xs i = some (xs[i.toNat]'(by omega)) := by
  unfold atI ixN
  rw [if_pos h0, if_pos h1]
  simp
def Bag (M : MH) (p : Addr) : Prop := ∃ (a b c : Int) (ns : List Int), M p = some (.lst [.d (.int a), .d (.int b), .d (.int c), .d (.list (ns.map PyData.int))]) ∧ 0 ≤ a ∧ 0 ≤ b ∧ b < 2147483647 ∧ 0 ≤ c ∧ (∀ n ∈ ns, 0 ≤ n)
def sp_l_bag : SpD := fun ws M Q => ∃ ns : List Int, ws = [.d (.list (ns.map PyData.int))] ∧ ns.length ≤ 1000 ∧ ∀ p M', M p = none → (∀ q, q ≠ p → M' q = M q) → Bag M' p → Q (.m p) M'
def sp_l_take : SpD := fun ws M Q => ∃ (p : Addr) (n : Int), ws = [.m p, .d (.int n)] ∧ Bag M p ∧ 0 < n ∧ n < 1073741824 ∧ ∀ (r : Int) M', 0 ≤ r → r < n → Bag M' p → (∀ q, q ≠ p → M' q = M q) → Q (.d (.int r)) M'
theorem len_l_bag : ∀ ws M Q, sp_l_bag ws M Q → ws.length = 1 := by rintro ws M Q ⟨ns, rfl, _⟩; rfl
theorem len_l_take : ∀ ws M Q, sp_l_take ws M Q → ws.length = 2 := by rintro ws M Q ⟨p, n, rfl, _⟩; rfl
theorem ixN_nat {n : Nat} {i : Int} (h0 : 0 ≤ i) (h1 : i < n) : ixN n i = some i.toNat := by unfold ixN; rw [if_pos h0, if_pos h1]
theorem ix_m {M : MH} {p : Addr} {ws : List W} {i : Int} {x : W} (hm : M p = some (.lst ws)) (h : atI ws i = some x) : ixW M (.m p) i = some x := by
  simp only [ixW, hm]; exact h
theorem ite_b {c : Bool} {A B : Prop} (h1 : c = true → A) (h2 : c = false → B) : if c = true then A else B := by
  cases c with
  | true => rw [if_pos rfl]; exact h1 rfl
  | false => rw [if_neg Bool.false_ne_true]; exact h2 rfl
end D
set_option Elab.async false
set_option linter.all false
set_option maxRecDepth 100000
set_option maxHeartbeats 4000000
namespace D
open PySem PySem.Spec PyProof.Rows L2
abbrev N_l_bag : List Str := ["_law_script"]
def t_l_bag : TSd :=
    dRet (dLstM (dCons (dC (.d (.int 0))) (dCons (dC (.d (.int 1234567891))) (dCons (dC (.d (.int 0))) (dCons (dLC (dItems (dSl (dVar 0) (dNoPart) (dPart (dC (.d (.int 63)))))) (gN 0) (dYes) (dCB rdAbs (dCons (dVar 0) (dNil))) 1 []) (dNil))))))

abbrev N_l_take : List Str := ["_law_bag_here", "_law_many", "_law_cell", "_law_value", "_law_first", "_law_second"]
def t_l_take : TSd :=
    dSeq (dIf (dTest (dOp rdEq (dOp rdIx (dVar 0) (dC (.d (.int 0)))) (dC (.d (.int 0)))))
      (dSeq (dAsg (dC (.d (.int 0))) (gN 2)) <|
      dSeq (dIf (dTest (dOp rdLt (dOp rdIx (dVar 0) (dC (.d (.int 2)))) (dCB rdLen (dCons (dOp rdIx (dVar 0) (dC (.d (.int 3)))) (dNil)))))
        (dAsg (dOp rdIx (dOp rdIx (dVar 0) (dC (.d (.int 3)))) (dOp rdIx (dVar 0) (dC (.d (.int 2))))) (gN 2))
        (dNext)) <|
      dSeq (dAugS (dVar 0) (dC (.d (.int 2))) (dC (.d (.int 1))) (fun i j => i + j)) <|
      dSeq (dIf (dTest (dOp rdGe (dVar 2) (dC (.d (.int 1000000000000000000)))))
        (dAsg (dVar 2) (gSet (dVar 0) (dC (.d (.int 0)))))
        (dNext)) <|
      dAsg (dOp rdMod (dOp rdAdd (dOp rdAdd (dOp rdMul (dOp rdIx (dVar 0) (dC (.d (.int 1)))) (dC (.d (.int 48271)))) (dOp rdMod (dVar 2) (dC (.d (.int 2147483647))))) (dOp rdMul (dC (.d (.int 7919))) (dOp rdIx (dVar 0) (dC (.d (.int 2)))))) (dC (.d (.int 2147483647)))) (gSet (dVar 0) (dC (.d (.int 1)))))
      (dNext)) <|
    dSeq (dIf (dTest (dOp rdGt (dOp rdIx (dVar 0) (dC (.d (.int 0)))) (dC (.d (.int 0)))))
      (dSeq (dAsg (dOp rdMod (dOp rdIx (dVar 0) (dC (.d (.int 0)))) (dVar 1)) (gN 3)) <|
      dSeq (dAsg (dOp rdDiv (dOp rdIx (dVar 0) (dC (.d (.int 0)))) (dVar 1)) (gSet (dVar 0) (dC (.d (.int 0))))) <|
      dRet (dVar 3))
      (dNext)) <|
    dSeq (dAsg (dOp rdMod (dOp rdMul (dOp rdAdd (dOp rdIx (dVar 0) (dC (.d (.int 1)))) (dC (.d (.int 1)))) (dC (.d (.int 39373)))) (dC (.d (.int 1000000007)))) (gN 4)) <|
    dSeq (dAsg (dOp rdMod (dOp rdMul (dOp rdMod (dOp rdMul (dVar 4) (dVar 4)) (dC (.d (.int 998244353)))) (dC (.d (.int 30011)))) (dC (.d (.int 998244353)))) (gN 5)) <|
    dSeq (dIf (dTest (dOp rdGt (dVar 1) (dC (.d (.int 1000000)))))
      (dRet (dOp rdMod (dOp rdAdd (dOp rdMul (dVar 5) (dC (.d (.int 1000000007)))) (dVar 4)) (dVar 1)))
      (dNext)) <|
    dRet (dOp rdMod (dOp rdDiv (dVar 5) (dC (.d (.int 7)))) (dVar 1))

abbrev bagL (a b c : Int) (ns : List Int) : List W := [.d (.int a), .d (.int b), .d (.int c), .d (.list (ns.map PyData.int))]
theorem read_take2 {M : MH} {Q : QD} {p : Addr} {n : Int} {a b c : Int} {ns : List Int} {x : Option W} (hm : M p = some (.lst (bagL a b c ns))) (ha : 0 ≤ a) (hb : 0 ≤ b) (hb2 : b < 2147483647) (hc : 0 ≤ c) (hns : ∀ n ∈ ns, 0 ≤ n) (hn : 0 < n) (hn2 : n < 1073741824)
    (k : ∀ (r : Int) M', 0 ≤ r → r < n → Bag M' p → (∀ q, q ≠ p → M' q = M q) → Q (.d (.int r)) M') {D : Ed} (hD : D.rt = Q) :
    (dSeq (dIf (dTest (dOp rdGt (dOp rdIx (dVar 0) (dC (.d (.int 0)))) (dC (.d (.int 0)))))
      (dSeq (dAsg (dOp rdMod (dOp rdIx (dVar 0) (dC (.d (.int 0)))) (dVar 1)) (gN 3)) <|
      dSeq (dAsg (dOp rdDiv (dOp rdIx (dVar 0) (dC (.d (.int 0)))) (dVar 1)) (gSet (dVar 0) (dC (.d (.int 0))))) <|
      dRet (dVar 3))
      (dNext)) <|
    dSeq (dAsg (dOp rdMod (dOp rdMul (dOp rdAdd (dOp rdIx (dVar 0) (dC (.d (.int 1)))) (dC (.d (.int 1)))) (dC (.d (.int 39373)))) (dC (.d (.int 1000000007)))) (gN 4)) <|
    dSeq (dAsg (dOp rdMod (dOp rdMul (dOp rdMod (dOp rdMul (dVar 4) (dVar 4)) (dC (.d (.int 998244353)))) (dC (.d (.int 30011)))) (dC (.d (.int 998244353)))) (gN 5)) <|
    dSeq (dIf (dTest (dOp rdGt (dVar 1) (dC (.d (.int 1000000)))))
      (dRet (dOp rdMod (dOp rdAdd (dOp rdMul (dVar 5) (dC (.d (.int 1000000007)))) (dVar 4)) (dVar 1)))
      (dNext)) <|
    dRet (dOp rdMod (dOp rdDiv (dVar 5) (dC (.d (.int 7)))) (dVar 1))) D [some (.m p), some (.d (.int n)), x, none, none, none] M := by
  subst hD
  have i0 : ixW M (.m p) 0 = some (.d (.int a)) := ix_m hm rfl
  have i1 : ixW M (.m p) 1 = some (.d (.int b)) := ix_m hm rfl
  have same : Bag M p := ⟨a, b, c, ns, hm, ha, hb, hb2, hc, hns⟩
  refine ⟨_, rfl, _, _, rfl, i0, rfl, _, _, rfl, rfl, _, rfl, ?_⟩
  refine ite_b (fun h => ?_) (fun h => ?_)
  · have h0 : 0 < a := of_decide_eq_true h
    refine ⟨_, rfl, _, _, rfl, i0, rfl, _, rfl, _, _, rfl, rfl, hn, ?_⟩
    refine ⟨_, rfl, _, _, rfl, i0, rfl, _, rfl, _, _, rfl, rfl, ⟨hn, hn2⟩, ?_⟩
    refine ⟨_, rfl, _, _, _, _, rfl, rfl, hm, rfl, ?_⟩
    refine ⟨_, rfl, ?_⟩
    refine k _ _ (Int.emod_nonneg _ (by omega)) (Int.emod_lt_of_pos _ hn) ⟨a / n, b, c, ns, updM_same, Int.ediv_nonneg ha (by omega), hb, hb2, hc, hns⟩ fun q hq => updM_ne hq
  · refine ⟨_, rfl, _, _, rfl, i1, rfl, .inl ?_⟩
    refine ⟨_, _, rfl, rfl, _, _, rfl, rfl, .inl ⟨by omega, by omega⟩, _, _, rfl, rfl, (by decide : (0 : Int) < 1000000007), ?_⟩
    have f0 : 0 ≤ (b + 1) * 39373 % 1000000007 := Int.emod_nonneg _ (by decide)
    have f1 : (b + 1) * 39373 % 1000000007 < 1000000007 := Int.emod_lt_of_pos _ (by decide)
    refine ⟨_, rfl, _, rfl, _, _, rfl, rfl, .inl ⟨by omega, by omega⟩, _, _, rfl, rfl, (by decide : (0 : Int) < 998244353), ?_⟩
    have g0 : 0 ≤ (b + 1) * 39373 % 1000000007 * ((b + 1) * 39373 % 1000000007) % 998244353 := Int.emod_nonneg _ (by decide)
    have g1 : (b + 1) * 39373 % 1000000007 * ((b + 1) * 39373 % 1000000007) % 998244353 < 998244353 := Int.emod_lt_of_pos _ (by decide)
    refine ⟨_, _, rfl, rfl, .inl ⟨by omega, by omega⟩, _, _, rfl, rfl, (by decide : (0 : Int) < 998244353), ?_⟩
    have e0 : 0 ≤ (b + 1) * 39373 % 1000000007 * ((b + 1) * 39373 % 1000000007) % 998244353 * 30011 % 998244353 := Int.emod_nonneg _ (by decide)
    have e1 : (b + 1) * 39373 % 1000000007 * ((b + 1) * 39373 % 1000000007) % 998244353 * 30011 % 998244353 < 998244353 := Int.emod_lt_of_pos _ (by decide)
    refine ⟨_, rfl, _, _, rfl, rfl, _, rfl, ?_⟩
    refine ite_b (fun h => ?_) (fun h => ?_)
    · refine ⟨_, rfl, _, _, rfl, rfl, .inl ⟨by omega, by omega⟩, _, rfl, .inl ⟨_, _, rfl, rfl, _, rfl, _, _, rfl, rfl, hn, ?_⟩⟩
      exact k _ _ (Int.emod_nonneg _ (by omega)) (Int.emod_lt_of_pos _ hn) same fun q _ => rfl
    · refine ⟨_, rfl, _, _, rfl, rfl, ⟨by decide, by decide⟩, _, rfl, _, _, rfl, rfl, hn, ?_⟩
      exact k _ _ (Int.emod_nonneg _ (by omega)) (Int.emod_lt_of_pos _ hn) same fun q _ => rfl
theorem read_take1 {M : MH} {p : Addr} {n cell : Int} {a b c : Int} {ns : List Int} {D : Ed} (hm : M p = some (.lst (bagL a b c ns))) (ha : 0 ≤ a) (hb : 0 ≤ b) (hb2 : b < 2147483647) (hc : 0 ≤ c) (hcell : 0 ≤ cell)
    (k : ∀ a' b' c' M', 0 ≤ a' → 0 ≤ b' → b' < 2147483647 → 0 ≤ c' → M' p = some (.lst (bagL a' b' c' ns)) → (∀ q, q ≠ p → M' q = M q) → D.nx [some (.m p), some (.d (.int n)), some (.d (.int cell)), none, none, none] M') :
    (dSeq (dAugS (dVar 0) (dC (.d (.int 2))) (dC (.d (.int 1))) (fun i j => i + j)) <|
      dSeq (dIf (dTest (dOp rdGe (dVar 2) (dC (.d (.int 1000000000000000000)))))
        (dAsg (dVar 2) (gSet (dVar 0) (dC (.d (.int 0)))))
        (dNext)) <|
      dAsg (dOp rdMod (dOp rdAdd (dOp rdAdd (dOp rdMul (dOp rdIx (dVar 0) (dC (.d (.int 1)))) (dC (.d (.int 48271)))) (dOp rdMod (dVar 2) (dC (.d (.int 2147483647))))) (dOp rdMul (dC (.d (.int 7919))) (dOp rdIx (dVar 0) (dC (.d (.int 2)))))) (dC (.d (.int 2147483647)))) (gSet (dVar 0) (dC (.d (.int 1)))))
      D [some (.m p), some (.d (.int n)), some (.d (.int cell)), none, none, none] M := by
  refine ⟨_, rfl, _, _, _, _, _, rfl, rfl, hm, rfl, rfl, _, rfl, rfl, ?_⟩
  have m1 : updM M p (.lst (bagL a b (c + 1) ns)) p = some (.lst (bagL a b (c + 1) ns)) := updM_same
  have f1 : ∀ q, q ≠ p → updM M p (.lst (bagL a b (c + 1) ns)) q = M q := fun q hq => updM_ne hq
  show (dSeq _ _) D _ (updM M p (.lst (bagL a b (c + 1) ns)))
  generalize updM M p (.lst (bagL a b (c + 1) ns)) = M1 at m1 f1
  have fin : ∀ (a' : Int) (M2 : MH), 0 ≤ a' → M2 p = some (.lst (bagL a' b (c + 1) ns)) → (∀ q, q ≠ p → M2 q = M q) →
      dAsg (dOp rdMod (dOp rdAdd (dOp rdAdd (dOp rdMul (dOp rdIx (dVar 0) (dC (.d (.int 1)))) (dC (.d (.int 48271)))) (dOp rdMod (dVar 2) (dC (.d (.int 2147483647))))) (dOp rdMul (dC (.d (.int 7919))) (dOp rdIx (dVar 0) (dC (.d (.int 2)))))) (dC (.d (.int 2147483647)))) (gSet (dVar 0) (dC (.d (.int 1)))) D [some (.m p), some (.d (.int n)), some (.d (.int cell)), none, none, none] M2 := by
    intro a' M2 ha' m2 f2
    have i1 : ixW M2 (.m p) 1 = some (.d (.int b)) := ix_m m2 rfl
    have i2 : ixW M2 (.m p) 2 = some (.d (.int (c + 1))) := ix_m m2 rfl
    refine ⟨_, rfl, _, _, rfl, i1, rfl, _, _, rfl, rfl, .inl ⟨by omega, by omega⟩, _, rfl, _, _, rfl, rfl, (by decide : (0 : Int) < 2147483647), .inl ?_⟩
    refine ⟨_, _, rfl, rfl, _, rfl, _, _, rfl, i2, rfl, _, _, rfl, rfl, .inl ⟨by decide, by decide⟩, .inl ?_⟩
    refine ⟨_, _, rfl, rfl, _, _, rfl, rfl, (by decide : (0 : Int) < 2147483647), _, rfl, _, _, _, _, rfl, rfl, m2, rfl, ?_⟩
    exact k a' _ (c + 1) _ ha' (Int.emod_nonneg _ (by decide)) (Int.emod_lt_of_pos _ (by decide)) (by omega) updM_same fun q hq => (updM_ne hq).trans (f2 q hq)
  refine ⟨_, rfl, _, _, rfl, rfl, _, rfl, ?_⟩
  refine ite_b (fun h => ?_) (fun h => ?_)
  · refine ⟨_, rfl, _, rfl, _, _, _, _, rfl, rfl, m1, rfl, ?_⟩
    exact fin cell _ hcell updM_same fun q hq => (updM_ne hq).trans (f1 q hq)
  · exact fin a M1 ha m1 f1
theorem read_l_take : ∀ ws M Q, sp_l_take ws M Q → t_l_take { nx := fun _ M' => Q (.d .none) M', rt := Q } (startD N_l_take ws) M := by
  rintro ws M Q ⟨p, n, rfl, ⟨a, b, c, ns, hm, ha, hb, hb2, hc, hns⟩, hn, hn2, k⟩
  have i0 : ixW M (.m p) 0 = some (.d (.int a)) := ix_m hm rfl
  have i2 : ixW M (.m p) 2 = some (.d (.int c)) := ix_m hm rfl
  have i3 : ixW M (.m p) 3 = some (.d (.list (ns.map PyData.int))) := ix_m hm rfl
  refine ⟨_, rfl, _, _, rfl, i0, rfl, _, _, rfl, rfl, rfl, _, rfl, ?_⟩
  refine ite_b (fun h => ?_) (fun h => ?_)
  · refine ⟨_, rfl, _, _, rfl, i2, rfl, _, rfl, _, _, rfl, i3, rfl, _, _, rfl, rfl, rfl, _, _, rfl, rfl, _, rfl, ?_⟩
    refine ite_b (fun h => ?_) (fun h => ?_)
    · have hlt : c < ((ns.map PyData.int).length : Nat) := of_decide_eq_true h
      have hlt' : c.toNat < ns.length := by rw [List.length_map] at hlt; omega
      have ic : ixW M (.d (.list (ns.map PyData.int))) c = some (.d (.int (ns[c.toNat]'hlt'))) := by
        simp only [ixW]
        rw [atI_nn hc hlt]
        simp
      refine ⟨_, rfl, _, _, rfl, i3, rfl, _, rfl, _, _, rfl, i2, rfl, _, _, rfl, ic, rfl, ?_⟩
      refine read_take1 (cell := ns[c.toNat]'hlt') hm ha hb hb2 hc (hns _ (List.getElem_mem _)) fun a' b' c' M' h1 h2 h3 h4 h5 h6 => ?_
      exact read_take2 (x := some (.d (.int (ns[c.toNat]'hlt')))) h5 h1 h2 h3 h4 hns hn hn2 (fun r M'' r0 r1 bg fr => k r M'' r0 r1 bg fun q hq => (fr q hq).trans (h6 q hq)) rfl
    · refine read_take1 (cell := 0) hm ha hb hb2 hc (Int.le_refl 0) fun a' b' c' M' h1 h2 h3 h4 h5 h6 => ?_
      exact read_take2 (x := some (.d (.int 0))) h5 h1 h2 h3 h4 hns hn hn2 (fun r M'' r0 r1 bg fr => k r M'' r0 r1 bg fun q hq => (fr q hq).trans (h6 q hq)) rfl
  · exact read_take2 (x := none) hm ha hb hb2 hc hns hn hn2 k rfl
theorem take_fm {f : W → Option PyData} {ws : List W} {i : Nat} {w : W} (h : ws[i]? = some w) : (ws.take (i + 1)).filterMap f = (ws.take i).filterMap f ++ (f w).toList := by
  rw [List.take_add_one, h, List.filterMap_append]
  cases e : f w <;> simp [e]
theorem lc_pure {tt : TTd} {te : TD} {fr : List Nat} {τ : DS} {M : MH} {Q : List PyData → MH → Prop} {ws : List W} (f : W → Option PyData) (hl : ws.length ≤ sizeLine)
    (step : ∀ w ∈ ws, ∀ P' : Option PyData → Prop, P' (f w) → tt (some w :: fr.map fun j => (τ[j]?).getD none) M fun b M3 => if b = true then te (some w :: fr.map fun j => (τ[j]?).getD none) M3 fun y M4 => ∃ d, y = .d d ∧ M4 = M ∧ P' (some d) else M3 = M ∧ P' none)
    (q : Q (ws.filterMap f) M) : ∃ P : Nat → List PyData → DS → MH → Prop, P 0 [] (lcSD 1 fr τ) M ∧
      (∀ i w acc τ M, ws[i]? = some w → P i acc τ M → acc.length < sizeLine ∧ gN 0 w τ M fun τ2 M2 => tt τ2 M2 fun b M3 => if b = true then te τ2 M3 fun y M4 => ∃ d, y = .d d ∧ P (i + 1) (acc ++ [d]) τ2 M4 else P (i + 1) acc τ2 M3) ∧
      ∀ acc τ M, P ws.length acc τ M → Q acc M := by
  let Pk : Nat → List PyData → DS → Prop := fun i acc τ' => i ≤ ws.length ∧ acc = (ws.take i).filterMap f ∧ ∃ x, τ' = x :: fr.map fun j => (τ[j]?).getD none
  refine ⟨fun i acc τ' M' => M' = M ∧ Pk i acc τ', ⟨rfl, Nat.zero_le _, rfl, none, rfl⟩, fun i w acc τ' M' hw hp => ?_, fun acc τ' M' hp => ?_⟩
  · obtain ⟨rfl, hi, rfl, x, rfl⟩ := hp
    have hlt : i < ws.length := (List.getElem?_eq_some_iff.mp hw).1
    refine ⟨?_, step w (List.mem_of_getElem? hw) (fun o => match o with
      | some d => Pk (i + 1) ((ws.take i).filterMap f ++ [d]) (some w :: fr.map fun j => (τ[j]?).getD none)
      | none => Pk (i + 1) ((ws.take i).filterMap f) (some w :: fr.map fun j => (τ[j]?).getD none)) ?_⟩
    · have h1 := List.length_filterMap_le f (ws.take i)
      rw [List.length_take] at h1
      omega
    · cases e : f w with
      | some d => exact ⟨hlt, by rw [take_fm hw, e]; rfl, _, rfl⟩
      | none => exact ⟨hlt, by rw [take_fm hw, e]; simp, _, rfl⟩
  · obtain ⟨rfl, hi, rfl, x, rfl⟩ := hp
    rw [List.take_of_length_le (Nat.le_refl _)]
    exact q
theorem lc_inv {tt : TTd} {te : TD} {fr : List Nat} {τ : DS} {M : MH} {Q : List PyData → MH → Prop} {ws : List W} (J : MH → Prop) (G : PyData → Prop) (hl : ws.length ≤ sizeLine) (j0 : J M)
    (step : ∀ w ∈ ws, ∀ M', J M' → ∀ P' : Option PyData → MH → Prop, (∀ d M'', G d → J M'' → P' (some d) M'') → (∀ M'', J M'' → P' none M'') →
      tt (some w :: fr.map fun j => (τ[j]?).getD none) M' fun b M3 => if b = true then te (some w :: fr.map fun j => (τ[j]?).getD none) M3 fun y M4 => ∃ d, y = .d d ∧ P' (some d) M4 else P' none M3)
    (q : ∀ acc M', J M' → (∀ d ∈ acc, G d) → acc.length ≤ ws.length → Q acc M') : ∃ P : Nat → List PyData → DS → MH → Prop, P 0 [] (lcSD 1 fr τ) M ∧
      (∀ i w acc τ M, ws[i]? = some w → P i acc τ M → acc.length < sizeLine ∧ gN 0 w τ M fun τ2 M2 => tt τ2 M2 fun b M3 => if b = true then te τ2 M3 fun y M4 => ∃ d, y = .d d ∧ P (i + 1) (acc ++ [d]) τ2 M4 else P (i + 1) acc τ2 M3) ∧
      ∀ acc τ M, P ws.length acc τ M → Q acc M := by
  let Pk : Nat → List PyData → DS → MH → Prop := fun i acc τ' M' => acc.length ≤ i ∧ (∀ d ∈ acc, G d) ∧ J M' ∧ ∃ x, τ' = x :: fr.map fun j => (τ[j]?).getD none
  refine ⟨Pk, ⟨Nat.le_refl _, fun d h => (nomatch h), j0, none, rfl⟩, fun i w acc τ' M' hw hp => ?_, fun acc τ' M' hp => ?_⟩
  · obtain ⟨hi, hg, hj, x, rfl⟩ := hp
    have hlt : i < ws.length := (List.getElem?_eq_some_iff.mp hw).1
    refine ⟨by omega, step w (List.mem_of_getElem? hw) M' hj (fun o M2 => match o with
      | some d => Pk (i + 1) (acc ++ [d]) (some w :: fr.map fun j => (τ[j]?).getD none) M2
      | none => Pk (i + 1) acc (some w :: fr.map fun j => (τ[j]?).getD none) M2) (fun d M2 gd j2 => ?_) fun M2 j2 => ?_⟩
    · refine ⟨by rw [List.length_append, List.length_singleton]; omega, fun d' hd' => ?_, j2, _, rfl⟩
      rcases List.mem_append.mp hd' with z | z
      · exact hg d' z
      · rw [List.mem_singleton.mp z]; exact gd
    · exact ⟨by omega, hg, j2, _, rfl⟩
  · obtain ⟨hi, hg, hj, x, rfl⟩ := hp
    exact q acc M' hj hg hi
theorem fm_map {α : Type} (g : α → W) (f : W → Option PyData) (h : α → PyData) (e : ∀ a, f (g a) = some (h a)) (l : List α) : (l.map g).filterMap f = l.map h := by
  induction l with
  | nil => rfl
  | cons a l ih => rw [List.map_cons, List.filterMap_cons, e, ih]; rfl
theorem read_l_bag : ∀ ws M Q, sp_l_bag ws M Q → t_l_bag { nx := fun _ M' => Q (.d .none) M', rt := Q } (startD N_l_bag ws) M := by
  rintro ws M Q ⟨ns, rfl, hl, k⟩
  refine ⟨_, rfl, _, rfl, _, rfl, rfl, _, rfl, ?_⟩
  have ec : cutD (ns.map PyData.int) none (some 63) = (cutD ns none (some 63)).map PyData.int := by
    simp only [cutD, List.length_map, List.map_take, List.map_drop]
  have hlen : (cutD ns none (some 63)).length ≤ ns.length := by
    simp only [cutD, List.length_take, List.length_drop]
    omega
  have h1000 : (1000 : Nat) ≤ sizeLine := by rw [sizeLine_eq]; decide
  dsimp only
  refine lc_pure (fun w => match w with
    | .d (.int n) => some (.int (if n < 0 then -n else n))
    | _ => none) ?hl (fun w hw P' hp => ?_) ?_
  case hl => rw [List.length_map, ec, List.length_map]; omega
  · rw [ec, List.map_map] at hw
    obtain ⟨n, _, rfl⟩ := List.mem_map.mp hw
    exact ⟨_, rfl, _, rfl, _, rfl, rfl, hp⟩
  · have e2 : (List.map W.d (cutD (ns.map PyData.int) none (some 63))).filterMap (fun w => match w with
        | .d (.int n) => some (PyData.int (if n < 0 then -n else n))
        | _ => none) = ((cutD ns none (some 63)).map fun n => if n < 0 then -n else n).map PyData.int := by
      rw [ec, List.map_map, fm_map (W.d ∘ PyData.int) _ (fun n => PyData.int (if n < 0 then -n else n)) (fun n => rfl), List.map_map]
      rfl
    rw [e2]
    refine ⟨by simp [sizeLine_eq], fun p hp => k p _ hp (fun q hq => updM_ne hq) ⟨0, 1234567891, 0, _, updM_same, Int.le_refl 0, by decide, by decide, Int.le_refl 0, fun n hn => ?_⟩⟩
    obtain ⟨m, _, rfl⟩ := List.mem_map.mp hn
    split <;> omega
theorem law_start {K : PySem.W.Frag} {H : Hp} {a : Addr} {ns : List Int} {sp : SpD} (hl : ns.length ≤ 63) (hO : L2.Only H) (hS : L2.SqL K H a (ns.map V.int)) (h : ∀ ns : List Int, ns.length ≤ 63 → sp [.d (.list (ns.map PyData.int))] (fun _ => none) (fun w _ => w = .d (.bool true))) :
    upSp K sp [.ref a] H (fun v _ => v = .bl true) fun _ _ _ => False := by
  refine ⟨[.d (.list (ns.map PyData.int))], fun _ => none, _, .cons ?_ .nil, fun a o z => (nomatch z), h ns hl, fun v H' w M' kp r m q => ?_⟩
  · simp only [RepW, RepD]
    refine ⟨a, _, rfl, ?_, RepA.ints ns⟩
    rcases hS with (h | h) | h
    · rcases hO a with z | ⟨ob, xs, z⟩
      · rw [h] at z; cases z
      · rw [h] at z; cases z
    · exact .inl h
    · exact .inr h
  · subst q
    simp only [RepW, RepD] at r
    exact r
end D
set_option Elab.async false
set_option linter.all false
set_option maxRecDepth 100000
set_option maxHeartbeats 4000000
namespace D
open PySem PySem.Spec PyProof.Rows L2
def ascB (z : Str) : Bool := z.cps.all (· < 128)
mutual
def big : PyData → Nat
  | .none => 4
  | .bool _ => 5
  | .int _ => 2000
  | .str z => 10 * z.length + 2
  | .list ds => bigA ds + 2
  | .tuple ds => bigA ds + 3
  | .dict kvs => bigK kvs + 2
def bigA : List PyData → Nat
  | [] => 0
  | d :: ds => big d + 2 + bigA ds
def bigK : List (PyData × PyData) → Nat
  | [] => 0
  | (k, d) :: ds => big k + 2 + big d + 2 + bigK ds
end
mutual
def fineD : PyData → Bool
  | .none => true
  | .bool _ => true
  | .int i => decide (i.natAbs.log2 < 1920)
  | .str z => ascB z
  | .list ds => fineA ds
  | .tuple ds => fineA ds
  | .dict kvs => fineK kvs
def fineA : List PyData → Bool
  | [] => true
  | d :: ds => fineD d && fineA ds
def fineK : List (PyData × PyData) → Bool
  | [] => true
  | (k, d) :: ds => fineD k && fineD d && fineK ds
end
theorem listText_le : ∀ ts : List Str, (listText ts).length ≤ piled ts + 2
  | [] => by decide +kernel
  | t :: r => by
    have h := textFrom_length_pos r 1 (("[" : Str) ++ (if (0 : Nat) > 0 then ", " else "" : String) ++ t) (Nat.succ_pos 0)
    have e : ((("[" : Str) ++ (if (0 : Nat) > 0 then ", " else "" : String) ++ t)).length = 1 + t.length := by
      rw [strLen_append, strLen_append]; rfl
    have hX : (listText (t :: r)).length = (textFrom 0 "[" (t :: r)).length + 1 := by
      show (textFrom 0 "[" (t :: r) ++ "]").length = _
      rw [strLen_append]; rfl
    have h2 : (textFrom 0 "[" (t :: r)).length = (1 + t.length) + piled r := by rw [← e]; exact h
    have h3 : piled (t :: r) = t.length + 2 + piled r := by simp [piled]
    omega
theorem join_le (ts : List Str) : (Str.join ", " ts).length ≤ piled ts := by
  cases ts with
  | nil => decide +kernel
  | cons t r => have := join_length_add (t :: r) (by simp); omega
theorem tupleText_le (ts : List Str) : (tupleText ts).length ≤ piled ts + 3 := by
  unfold tupleText
  rw [strLen_append, strLen_append]
  have e1 : ((("(" : String) : Str)).length = 1 := rfl
  have e3 : (((if ts.length == 1 then ",)" else ")" : String) : Str)).length ≤ 2 := by split <;> decide
  have := join_le ts
  omega
theorem dictText_le (ts : List Str) : (dictText ts).length ≤ piled ts + 2 := by
  unfold dictText
  rw [strLen_append, strLen_append]
  have e1 : ((("{" : String) : Str)).length = 1 := rfl
  have e2 : ((("}" : String) : Str)).length = 1 := rfl
  have := join_le ts
  omega
theorem int_len {i : Int} (h : i.natAbs.log2 < 1920) : (Str.ofString (toString i)).length ≤ 2000 := by
  have e := int_text_length_le (k := 1920) (by decide) h
  rw [PySem.ofString_length]; omega
theorem repr_len {z : Str} (h : ascB z = true) : (reprText z).length ≤ 10 * z.length + 2 := StrLaws.reprText_len z fun c hc => by
  have := Array.all_eq_true_iff_forall_mem.mp h c (by simpa using hc)
  have h2 : c < 128 := by simpa using this
  omega
mutual
theorem shown_le : ∀ d : PyData, fineD d = true → d.shown.length ≤ big d
  | .none, _ => by rw [PyData.shown]; decide +kernel
  | .bool b, _ => by rw [PyData.shown]; cases b <;> decide +kernel
  | .int i, h => by rw [PyData.shown]; exact int_len (by simpa [fineD] using h)
  | .str z, h => by rw [PyData.shown, big]; exact repr_len (by simpa [fineD] using h)
  | .list ds, h => by
    have h1 := shownA_le ds (by simpa [fineD] using h)
    have h2 := listText_le (PyData.shownAll ds)
    rw [PyData.shown, big]; omega
  | .tuple ds, h => by
    have h1 := shownA_le ds (by simpa [fineD] using h)
    have h2 := tupleText_le (PyData.shownAll ds)
    rw [PyData.shown, big]; omega
  | .dict ds, h => by
    have h1 := shownK_le ds (by simpa [fineD] using h)
    have h2 := dictText_le (PyData.shownKv ds)
    rw [PyData.shown, big]; omega
theorem shownA_le : ∀ ds : List PyData, fineA ds = true → piled (PyData.shownAll ds) ≤ bigA ds
  | [], _ => by simp [PyData.shownAll, piled, bigA]
  | d :: ds, h => by
    simp only [fineA, Bool.and_eq_true] at h
    have h1 := shown_le d h.1
    have h2 := shownA_le ds h.2
    simp only [PyData.shownAll, piled_cons, bigA]
    omega
theorem shownK_le : ∀ ds : List (PyData × PyData), fineK ds = true → piled (PyData.shownKv ds) ≤ bigK ds
  | [], _ => by simp [PyData.shownKv, piled, bigK]
  | (k, d) :: ds, h => by
    simp only [fineK, Bool.and_eq_true] at h
    have h1 := shown_le k h.1.1
    have h3 := shown_le d h.1.2
    have h2 := shownK_le ds h.2
    have e : ((((": " : String) : Str))).length = 2 := rfl
    simp only [PyData.shownKv, piled_cons, bigK, strLen_append, e]
    omega
end
mutual
theorem fine_show : ∀ d : PyData, fineD d = true → d.showable = true
  | .none, _ => by simp [PyData.showable]
  | .bool b, _ => by simp [PyData.showable]
  | .int i, h => by simpa [PyData.showable, fineD] using h
  | .str z, h => by simp [PyData.showable]
  | .list ds, h => by simpa [PyData.showable] using fine_showA ds (by simpa [fineD] using h)
  | .tuple ds, h => by simpa [PyData.showable] using fine_showA ds (by simpa [fineD] using h)
  | .dict ds, h => by simpa [PyData.showable] using fine_showK ds (by simpa [fineD] using h)
theorem fine_showA : ∀ ds : List PyData, fineA ds = true → PyData.showableAll ds = true
  | [], _ => by simp [PyData.showableAll]
  | d :: ds, h => by
    simp only [fineA, Bool.and_eq_true] at h
    simp [PyData.showableAll, fine_show d h.1, fine_showA ds h.2]
theorem fine_showK : ∀ ds : List (PyData × PyData), fineK ds = true → PyData.showableKv ds = true
  | [], _ => by simp [PyData.showableKv]
  | (k, d) :: ds, h => by
    simp only [fineK, Bool.and_eq_true] at h
    simp [PyData.showableKv, fine_show k h.1.1, fine_show d h.1.2, fine_showK ds h.2]
end
theorem s16 : (1000000 : Nat) ≤ sizeLine := by rw [sizeLine_eq]; decide
theorem repr_ok {d : PyData} (h : fineD d = true) (hb : big d ≤ 1000000) (hd : d.depth ≤ 60) (hk : d.hasDict = false) : reprOk d = true := by
  have h1 := fine_show d h
  have h2 := shown_le d h
  have h3 := s16
  simp only [reprOk, h1, Bool.true_and, Bool.and_eq_true, decide_eq_true_eq, Bool.or_eq_true, Bool.not_eq_true']
  exact ⟨⟨by omega, hd⟩, .inl hk⟩
end D
set_option Elab.async false
set_option linter.all false
set_option maxRecDepth 100000
set_option maxHeartbeats 4000000
namespace D
open PySem PySem.Spec PyProof.Rows L2
section
variable {κ α : Type} [DecidableEq κ]
def tget (t : List (κ × α)) (k : κ) : Option α := (t.find? fun p => decide (p.1 = k)).map (·.2)
def tput (t : List (κ × α)) (k : κ) (v : α) : List (κ × α) := if (t.any fun p => decide (p.1 = k)) = true then t.map (fun p => if p.1 = k then (p.1, v) else p) else t ++ [(k, v)]
def OR {β γ : Type} (R : β → γ → Prop) : Option β → Option γ → Prop
  | some a, some b => R a b
  | none, none => True
  | _, _ => False
theorem OR.some_of {β γ : Type} {R : β → γ → Prop} {a : β} {o : Option γ} (h : OR R (some a) o) : ∃ b, o = some b ∧ R a b := by
  cases o with
  | none => exact h.elim
  | some b => exact ⟨b, rfl, h⟩
theorem OR.none_of {β γ : Type} {R : β → γ → Prop} {o : Option γ} (h : OR R none o) : o = none := by
  cases o with
  | none => rfl
  | some b => exact h.elim
theorem OR.isSome {β γ : Type} {R : β → γ → Prop} : ∀ {a : Option β} {o : Option γ}, OR R a o → a.isSome = o.isSome
  | some _, some _, _ => rfl
  | none, none, _ => rfl
  | some _, none, h => h.elim
  | none, some _, h => h.elim
theorem tb_get {R : α → V → Prop} (k : κ) : ∀ {t : List (κ × α)} {l : List (κ × V)}, Paired (fun p q => p.1 = q.1 ∧ R p.2 q.2) t l → OR R (tget t k) (valV l k)
  | _, _, .nil => True.intro
  | _, _, .cons (a := p) (b := q) (l₁ := t1) h t => by
    obtain ⟨h1, h2⟩ := h
    by_cases e : p.1 = k
    · rw [valV_pos (h1.symm.trans e), show tget (p :: t1) k = some p.2 by simp [tget, List.find?_cons, e]]
      exact h2
    · rw [valV_neg (fun z => e (h1.trans z)), show tget (p :: t1) k = tget t1 k by simp [tget, List.find?_cons, e]]
      exact tb_get k t
theorem tb_any {R : α → V → Prop} (k : κ) : ∀ {t : List (κ × α)} {l : List (κ × V)}, Paired (fun p q => p.1 = q.1 ∧ R p.2 q.2) t l → (t.any fun p => decide (p.1 = k)) = (l.any fun p => decide (p.1 = k))
  | _, _, .nil => rfl
  | _, _, .cons (a := p) (b := q) h t => by
    simp only [List.any_cons]
    rw [tb_any k t, h.1]
theorem tb_map {R : α → V → Prop} (k : κ) {a : α} {v : V} (r : R a v) : ∀ {t : List (κ × α)} {l : List (κ × V)}, Paired (fun p q => p.1 = q.1 ∧ R p.2 q.2) t l →
    Paired (fun p q => p.1 = q.1 ∧ R p.2 q.2) (t.map fun p => if p.1 = k then (p.1, a) else p) (l.map fun p => if p.1 = k then (p.1, v) else p)
  | _, _, .nil => .nil
  | _, _, .cons (a := p) (b := q) h t => by
    simp only [List.map_cons]
    refine .cons ?_ (tb_map k r t)
    by_cases e : p.1 = k
    · rw [if_pos e, if_pos (h.1.symm.trans e)]
      exact ⟨h.1, r⟩
    · rw [if_neg e, if_neg (fun z => e (h.1.trans z))]
      exact h
theorem tb_snoc {P : κ × α → κ × V → Prop} {p : κ × α} {q : κ × V} (r : P p q) : ∀ {t : List (κ × α)} {l : List (κ × V)}, Paired P t l → Paired P (t ++ [p]) (l ++ [q])
  | _, _, .nil => .cons r .nil
  | _, _, .cons h t => .cons h (tb_snoc r t)
theorem tb_put {R : α → V → Prop} (k : κ) {a : α} {v : V} (r : R a v) {t : List (κ × α)} {l : List (κ × V)} (h : Paired (fun p q => p.1 = q.1 ∧ R p.2 q.2) t l) :
    Paired (fun p q => p.1 = q.1 ∧ R p.2 q.2) (tput t k a) (putK l k v) := by
  unfold tput putK
  rw [tb_any k h]
  split
  · exact tb_map k r h
  · exact tb_snoc ⟨rfl, r⟩ h
theorem tb_len {P : κ × α → κ × V → Prop} : ∀ {t : List (κ × α)} {l : List (κ × V)}, Paired P t l → t.length = l.length
  | _, _, .nil => rfl
  | _, _, .cons _ t => by simp [tb_len t]
theorem tget_cons {p : κ × α} {t : List (κ × α)} {k : κ} : tget (p :: t) k = if p.1 = k then some p.2 else tget t k := by
  by_cases e : p.1 = k <;> simp [tget, List.find?_cons, e]
theorem tget_any (k : κ) : ∀ t : List (κ × α), (t.any fun p => decide (p.1 = k)) = (tget t k).isSome
  | [] => rfl
  | p :: t => by
    rw [List.any_cons, tget_any k t, tget_cons]
    by_cases e : p.1 = k <;> simp [e]
end
def kW (k : Key) : W := .d (keyD k)
theorem kW_rep {K : PySem.W.Frag} {H : Hp} {k : Key} {v : V} (r : RepW K H (kW k) v) : v = kV k := key_rep r
def tkW (ks : List Key) : W := .d (.tuple (ks.map keyD))
theorem keysA {K : PySem.W.Frag} {H : Hp} : ∀ {ks : List Key} {vs : List V}, RepA K H (ks.map keyD) vs → vs = ks.map kV
  | [], vs, h => by simpa [RepA] using h
  | k :: ks, vs, h => by
    simp only [List.map_cons, RepA] at h
    obtain ⟨v, r, e, h1, h2⟩ := h
    rw [e, key_rep h1, keysA h2]
    rfl
def Rd2 (H : Hp) (a : Addr) (u : HO) : Prop := Rd H a u ∨ ∃ o, H a = some (.frz o (.frz o u))
theorem dk_rd2 {P : Program} {w : World} {H : Hp} {h : Heap} {a : Addr} {kvs : List (Key × V)} (ok : HOk P w H h) (e : Rd2 H a (.dK kvs)) : kvs.length ≤ sizeLine ∧ (a == sysModules) = false ∧ ∃ vs, KV kvs vs ∧ h.DictOf (mixKind P w) a vs := by
  rcases e with e | ⟨o, e⟩
  · exact dk_rd ok e
  · exact (ok a _ e).2.2
def DGetS (K : PySem.W.Frag) (H : Hp) (a : Addr) (y : V) (r : Option V) : Prop :=
  (∃ kvs k, Rd2 H a (.dK kvs) ∧ y = kV k ∧ r = valV kvs k) ∨ ∃ kvs k b, Rd H a (.dT kvs) ∧ y = .ref b ∧ SqT K H b (k.map kV) ∧ r = valV kvs k
theorem key_sq {X : Cx} {pins : List (Addr × Obj)} {σ : St} {H : Hp} {s : Shared} {b : Addr} {ks : List Key} (I : Inv X pins σ H s) (h : SqT X.K H b (ks.map kV)) : (tupleKind (mixKind X.prog X.w)).is s.heap ks b := by
  obtain ⟨its, r, ⟨o, h1, h2, n, h3⟩, _⟩ := I.tuple h
  exact ⟨o, its.toArray, n, h1, h2, h3, by simpa using items_are r⟩
section
variable {X : Cx} {pins : List (Addr × Obj)} {σ : St} {H : Hp} {s : Shared} {a : Addr} {y d : V} {u r : Value} {o : Option V} {A : Around} {E : Value → Shared → Prop}
theorem ds_notIn {Q : Value → Shared → Prop} (hu : A.units + 1 < cLine) (I : Inv X pins σ H s) (g : DGetS X.K H a y o) (ry : RelV y u) (h : ∀ s', Inv X pins σ H s' → Q (.bool (!o.isSome)) s') :
    wpAny (model X.prog X.w) A (compareOp .NotIn u (.ref a)) Q E s := by
  rcases g with ⟨kvs, k, e, ey, l⟩ | ⟨kvs, k, b, e, ey, eb, l⟩
  · subst ey
    obtain ⟨z, hd, vs, rel, dd⟩ := dk_rd2 I.hok e
    refine wpAny_notIn_of (kV_is ry) hd dd.mapOf ?_
    rw [← (rel.val k).isSome_eq, ← l]
    exact h _ (I.tok _)
  · subst ey
    cases (show u = Value.ref b from ry)
    obtain ⟨z, hd, xs, rel, dd⟩ := dt_rd I.hok e
    refine wpAny_notIn_heap (tupleKind_room_in1 hu) (key_sq I eb) hd dd ?_
    have q := (rel.val k).isSome_eq
    rw [Option.isSome_map] at q
    rw [← q, ← l]
    exact h _ (I.tok _)
theorem ds_getItem {v : V} {Q : Value → Shared → Prop} (hu : A.units + 1 < cLine) (I : Inv X pins σ H s) {kvs : List (Key × V)} {k : Key} (e : Rd2 H a (.dK kvs)) (l : valV kvs k = some v) (ry : RelV (kV k) u) (h : ∀ w' s', Inv X pins σ H s' → RelV v w' → Q w' s') :
    s.TypeIs (.ref a) "dict" ∧ wpAny (model X.prog X.w) A (getItem (.ref a) u) Q E s := by
  obtain ⟨z, hd, vs, rel, dd⟩ := dk_rd2 I.hok e
  obtain ⟨w', hw, rw'⟩ := RelO.some_of (v := v) (o := valueAt vs k) (by rw [← l]; exact rel.val k)
  exact ⟨dd.typeIs, wpAny_getItem_of (kV_is ry) dd.mapOf hw (h w' _ (I.tok _) rw')⟩
end
end D
set_option Elab.async false
set_option linter.all false
set_option maxRecDepth 100000
set_option maxHeartbeats 4000000
namespace D
open PySem PySem.Spec PyProof.Rows L2
inductive DLook (M : MH) : W → W → Option W → Prop
  | k {a : Addr} {kvs : List (Key × W)} {k : Key} (h : M a = some (.dic kvs)) : DLook M (.m a) (kW k) (tget kvs k)
  | t {a : Addr} {kvs : List (List Key × W)} {ks : List Key} (h : M a = some (.dct kvs)) : DLook M (.m a) (tkW ks) (tget kvs ks)
  | f {a : Addr} {kvs : List (Key × W)} {k : Key} (h : M a = some (.fdic kvs)) : DLook M (.m a) (kW k) (tget kvs k)
  | d {kvs : List (Key × PyData)} {k : Key} : DLook M (.d (.dict (kvs.map fun p => (keyD p.1, p.2)))) (kW k) ((tget kvs k).map W.d)
inductive DIs (M : MH) : W → Prop
  | k {a : Addr} {kvs : List (Key × W)} (h : M a = some (.dic kvs)) : DIs M (.m a)
  | t {a : Addr} {kvs : List (List Key × W)} (h : M a = some (.dct kvs)) : DIs M (.m a)
  | d {kvs : List (PyData × PyData)} : DIs M (.d (.dict kvs))
theorem keyD_inj {a b : Key} (h : keyD a = keyD b) : a = b := by
  cases a <;> cases b <;> simp [keyD] at h <;> rw [h]
theorem repK_paired {K : PySem.W.Frag} {H : Hp} : ∀ {kvs : List (Key × PyData)} {l : List (Key × V)}, RepK K H (kvs.map fun p => (keyD p.1, p.2)) l → Paired (fun (p : Key × PyData) (q : Key × V) => p.1 = q.1 ∧ RepD K H p.2 q.2) kvs l
  | [], l, h => by
    simp only [List.map_nil, RepK] at h
    subst h
    exact .nil
  | p :: kvs, l, h => by
    simp only [List.map_cons, RepK] at h
    obtain ⟨key, v, r, e, ek, h1, h2⟩ := h
    subst e
    exact .cons ⟨keyD_inj ek, h1⟩ (repK_paired h2)
theorem DIs.sound {K : PySem.W.Frag} {H : Hp} {M : MH} {w : W} {x : V} (g : DIs M w) (r : RepW K H w x) (m : MAbs K H M) : ∃ a, x = .ref a ∧ IsD H a := by
  cases g with
  | k h =>
    obtain ⟨l, e, _⟩ := m _ _ h
    exact ⟨_, r, .inl ⟨l, .inl e⟩⟩
  | t h =>
    obtain ⟨l, e, _⟩ := m _ _ h
    exact ⟨_, r, .inr ⟨l, .inl e⟩⟩
  | d =>
    simp only [RepW, RepD] at r
    obtain ⟨a, o, l, e, h, _⟩ := r
    exact ⟨a, e, .inl ⟨l, .inr ⟨o, h⟩⟩⟩
theorem DLook.sound {K : PySem.W.Frag} {H : Hp} {M : MH} {w y : W} {o : Option W} {x v : V} (g : DLook M w y o) (r : RepW K H w x) (ry : RepW K H y v) (m : MAbs K H M) :
    ∃ a p, x = .ref a ∧ DGetS K H a v p ∧ OR (RepW K H) o p := by
  cases g with
  | @k a kvs k h =>
    obtain ⟨l, e, pr⟩ := m _ _ h
    exact ⟨_, _, r, .inl ⟨l, k, .inl (.inl e), kW_rep ry, rfl⟩, tb_get k pr⟩
  | @f a kvs k h =>
    obtain ⟨ob, l, e, pr⟩ := m _ _ h
    exact ⟨_, _, r, .inl ⟨l, k, .inr ⟨ob, e⟩, kW_rep ry, rfl⟩, tb_get k pr⟩
  | @t a kvs ks h =>
    obtain ⟨l, e, pr⟩ := m _ _ h
    simp only [tkW, RepW, RepD] at ry
    obtain ⟨b, vs, eb, hs, ra⟩ := ry
    rw [keysA ra] at hs
    exact ⟨_, _, r, .inr ⟨l, ks, b, .inl e, eb, hs, rfl⟩, tb_get ks pr⟩
  | @d kvs k =>
    simp only [RepW, RepD] at r
    obtain ⟨a, ob, l, e, h, rk⟩ := r
    refine ⟨a, _, e, .inl ⟨l, k, .inl (.inr ⟨ob, h⟩), kW_rep ry, rfl⟩, ?_⟩
    have g := tb_get (R := fun d q => RepD K H d q) k (repK_paired rk)
    cases q : tget kvs k with
    | none => rw [q] at g; rw [OR.none_of g]; exact True.intro
    | some z =>
      rw [q] at g
      obtain ⟨b, eb, rb⟩ := OR.some_of g
      rw [eb]
      exact rb
section
variable {X : Cx} {o i e f : Expr} {pos apos cpos : Pos} {td ty tx : TE}
def tDNotInS (K : PySem.W.Frag) (ty td : TE) : TE := fun σ H Q => ty σ H fun y H1 => td σ H1 fun x H2 => ∃ a o, x = .ref a ∧ DGetS K H2 a y o ∧ Q (.bl (!o.isSome)) H2
theorem pc_dnotinS (hu : X.A.units + 1 < cLine) (hi : PE X i ty) (ho : PE X o td) : PC X .NotIn i o (tDNotInS X.K ty td) := by
  intro pins s σ H Q I h
  refine thn (hi pins s σ H _ I h) fun iv s1 ⟨y, H1, I1, ry, q1⟩ => thn (ho pins s1 σ H1 _ I1 q1) fun u s2 hq48 => ?_
  obtain ⟨x, H2, I2, rx, a, ov, ex, g, q2⟩ := hq48
  subst ex
  obtain rfl : u = Value.ref a := rx
  exact ds_notIn hu I2 g ry fun s3 I3 => ⟨.bl (!ov.isSome), H2, I3, rfl, q2⟩
end
section
variable {X : Cx} {o i : Expr} {pos : Pos} {td ty : TE}
def tDGetS (td ty : TE) : TE := fun σ H Q => td σ H fun x H1 => ty σ H1 fun y H2 => ∃ a kvs k v, x = .ref a ∧ Rd2 H2 a (.dK kvs) ∧ y = kV k ∧ valV kvs k = some v ∧ Q v H2
theorem pe_dgetS (hu : X.A.units + 1 < cLine) (ho : PE X o td) (hi : PE X i ty) (hs : NoSl i) : PE X (.Subscript o i pos) (tDGetS td ty) := by
  intro pins s σ H Q I h
  refine subD_of PySem.F.slot_dict_getitem.lookup hs (thn (ho pins s σ H _ I h) fun u s1 ⟨x, H1, I1, rx, q1⟩ => thn (hi pins s1 σ H1 _ I1 q1) fun iv s2 hq49 => ?_)
  obtain ⟨y, H2, I2, ry, a, kvs, k, v, ex, g, ey, l, q2⟩ := hq49
  subst ex ey
  obtain rfl : u = Value.ref a := rx
  exact ds_getItem hu I2 g l ry fun w' s3 I3 rw' => ⟨v, H2, I3, rw', q2⟩
end
section
variable {X : Cx} {o i e f value : Expr} {es : List Expr} {pos pos' apos cpos : Pos} {td ti tx tv : TD} {t : TAd}
def dNewDic (_ : DS) (M : MH) (Q : QD) : Prop := ∀ p, M p = none → Q (.m p) (updM M p (.dic []))
theorem pd_newDic : PD X (.Dict [] [] pos) dNewDic := pe_w pe_dnewK fun σ H Q ⟨τ, M, Qd, A, h, k⟩ p hp =>
  k (.ref p) _ (.m p) (updM M p (.dic [])) (Kp.new hp) rfl (A.mem.put (mo := .dic []) (Kp.new hp) ⟨[], upd_same, .nil⟩) (h p (A.mem.free hp))
def dDNotIn (ti td : TD) (τ : DS) (M : MH) (Q : QD) : Prop := ti τ M fun y M1 => td τ M1 fun w M2 => ∃ o, DLook M2 w y o ∧ Q (.d (.bool (!o.isSome))) M2
theorem imp_dnotin {σ : St} {H : Hp} {Q : VK} (h : up X.K (dDNotIn ti td) σ H Q) : tDNotInS X.K (up X.K ti) (up X.K td) σ H Q := by
  obtain ⟨τ, M, Qd, A, h, k⟩ := h
  refine ⟨τ, M, _, A, h, fun y H1 wy M1 kp1 r1 m1 q1 => ⟨τ, M1, _, A.go kp1 m1, q1, fun x H2 w M2 kp2 r2 m2 hq50 => ?_⟩⟩
  obtain ⟨o, g, q2⟩ := hq50
  obtain ⟨a, p, e, g', ro⟩ := g.sound r2 (r1.keep kp2) m2
  refine ⟨a, p, e, g', ?_⟩
  rw [← ro.isSome]
  exact k _ H2 (.d (.bool _)) M2 (kp1.trans kp2) (by simp [RepW, RepD]) m2 q2
theorem ptd_dnotin (hu : X.A.units + 1 < cLine) (hi : PD X i ti) (ho : PD X o td) (hm : behindInMarks .NotIn o = false := by rfl) : PTd X (.Compare i [.NotIn] [o] pos) (dTest (dDNotIn ti td)) := pt_w (pt_cmp (pc_dnotinS hu hi ho) hm) fun σ H Q h => imp_test (fun σ H Q h => imp_dnotin h) h
def dDGet (td ti : TD) (τ : DS) (M : MH) (Q : QD) : Prop := td τ M fun w M1 => ti τ M1 fun y M2 => ∃ a kvs k v, w = .m a ∧ (M2 a = some (.dic kvs) ∨ M2 a = some (.fdic kvs)) ∧ y = kW k ∧ tget kvs k = some v ∧ Q v M2
theorem pd_dget (hu : X.A.units + 1 < cLine) (ho : PD X o td) (hi : PD X i ti) (hs : NoSl i := by exact fun _ _ => rfl) : PD X (.Subscript o i pos) (dDGet td ti) := pe_w (pe_dgetS hu ho hi hs) fun σ H Q h => by
  obtain ⟨τ, M, Qd, A, h, k⟩ := h
  refine ⟨τ, M, _, A, h, fun x H1 w M1 kp1 r1 m1 q1 => ⟨τ, M1, _, A.go kp1 m1, q1, fun y H2 wy M2 kp2 r2 m2 hq51 => ?_⟩⟩
  obtain ⟨a, kvs, key, v, ew, hm, ey, hv, q2⟩ := hq51
  subst ew ey
  obtain ⟨l, e, pr⟩ : ∃ l, Rd2 H2 a (.dK l) ∧ Paired (fun (p : Key × W) (q : Key × V) => p.1 = q.1 ∧ RepW X.K H2 p.2 q.2) kvs l := by
    rcases hm with hm | hm
    · obtain ⟨l, e, pr⟩ := m2 _ _ hm
      exact ⟨l, .inl (.inl e), pr⟩
    · obtain ⟨ob, l, e, pr⟩ := m2 _ _ hm
      exact ⟨l, .inr ⟨ob, e⟩, pr⟩
  have g := tb_get key pr
  rw [hv] at g
  obtain ⟨b, eb, rb⟩ := OR.some_of g
  refine ⟨a, l, key, b, r1, e, kW_rep r2, eb, ?_⟩
  exact k _ H2 v M2 (kp1.trans kp2) rb m2 q2
theorem OR.getD {K : PySem.W.Frag} {H : Hp} {o : Option W} {p : Option V} {z : W} {v : V} (h : OR (RepW K H) o p) (r : RepW K H z v) : RepW K H (o.getD z) (p.getD v) := by
  cases o with
  | none => rw [OR.none_of h]; exact r
  | some a => obtain ⟨b, e, q⟩ := OR.some_of h; rw [e]; exact q
def dDPut (td ti tv : TD) (D : Ed) (τ : DS) (M : MH) : Prop := tv τ M fun v M1 => td τ M1 fun w M2 => ti τ M2 fun y M3 => ∃ a kvs k, w = .m a ∧ M3 a = some (.dic kvs) ∧ y = kW k ∧ kvs.length < sizeLine ∧ D.nx τ (updM M3 a (.dic (tput kvs k v)))
theorem psd_dput (hu : X.A.units + 1 < cLine) (ho : PD X o td) (hi : PD X i ti) (hv : PD X value tv) (hs : swapsWith value (some (.Subscript o i pos')) pos.line X.env = pure false := by rfl) :
    PSd X (.Assign [.Subscript o i pos'] value pos) (dDPut td ti tv) := ps_w (ps_dput hu ho hi hv hs) fun D σ H h => by
  obtain ⟨τ, M, Dd, A, h, k1, _⟩ := h
  refine ⟨τ, M, _, A, h, fun v H1 wv M1 kp1 r1 m1 q1 => ⟨τ, M1, _, A.go kp1 m1, q1, fun x H2 w M2 kp2 r2 m2 q2 => ⟨τ, M2, _, A.go (kp1.trans kp2) m2, q2, fun y H3 wy M3 kp3 r3 m3 hq52 => ?_⟩⟩⟩
  obtain ⟨a, kvs, key, ew, hm, ey, hl, q3⟩ := hq52
  subst ew ey
  obtain ⟨l, e, pr⟩ := m3 _ _ hm
  have kp4 : Kp H3 (upd H3 a (.dK (putK l key v))) := Kp.set e (fun _ z => nomatch z) (fun _ _ z => nomatch z)
  refine ⟨a, _, r2, .inl ⟨l, key, e, kW_rep r3, by rw [← tb_len pr]; exact hl, rfl⟩, ?_⟩
  have rv : RepW X.K H3 wv v := (r1.keep kp2).keep kp3
  refine k1 _ _ _ _ (((kp1.trans kp2).trans kp3).trans kp4) (A.go (((kp1.trans kp2).trans kp3).trans kp4) (m3.put (mo := .dic (tput kvs key wv)) kp4 ⟨_, upd_same, ?_⟩)) q3
  exact Paired.mapP (tb_put key rv pr) fun p q z => ⟨z.1, z.2.keep kp4⟩
end
end D
set_option Elab.async false
set_option linter.all false
set_option maxRecDepth 100000
set_option maxHeartbeats 4000000
namespace D
open PySem PySem.Spec PyProof.Rows L2
def putW (f : Str) (v : W) : List (Str × W) → List (Str × W)
  | [] => [(f, v)]
  | (g, x) :: r => if g = f then (g, v) :: r else (g, x) :: putW f v r
abbrev FRep (K : PySem.W.Frag) (H : Hp) : List (Str × W) → List (Str × V) → Prop := Paired (fun (p : Str × W) (q : Str × V) => p.1 = q.1 ∧ RepW K H p.2 q.2)
theorem fr_lookup {K : PySem.W.Frag} {H : Hp} (f : Str) : ∀ {fs : List (Str × W)} {l : List (Str × V)}, FRep K H fs l → OR (RepW K H) (fs.lookup f) (l.lookup f)
  | _, _, .nil => True.intro
  | _, _, .cons (a := p) (b := q) (l₁ := t1) (l₂ := t2) h t => by
    obtain ⟨pk, pv⟩ := p
    obtain ⟨qk, qv⟩ := q
    obtain ⟨h1, h2⟩ := h
    have h1' : pk = qk := h1
    subst h1'
    rw [List.lookup_cons, List.lookup_cons]
    cases e : (f == pk) with
    | true => exact h2
    | false => exact fr_lookup f t
theorem fr_put {K : PySem.W.Frag} {H : Hp} (f : Str) {w : W} {v : V} (r : RepW K H w v) : ∀ {fs : List (Str × W)} {l : List (Str × V)}, FRep K H fs l → FRep K H (putW f w fs) (putF f v l)
  | _, _, .nil => .cons ⟨rfl, r⟩ .nil
  | _, _, .cons (a := p) (b := q) (l₁ := t1) (l₂ := t2) h t => by
    obtain ⟨pk, pv⟩ := p
    obtain ⟨qk, qv⟩ := q
    obtain ⟨h1, h2⟩ := h
    have h1' : pk = qk := h1
    subst h1'
    show FRep K H (if pk = f then (pk, w) :: t1 else (pk, pv) :: putW f w t1) (if pk = f then (pk, v) :: t2 else (pk, qv) :: putF f v t2)
    by_cases e : pk = f
    · rw [if_pos e, if_pos e]
      exact .cons ⟨rfl, r⟩ t
    · rw [if_neg e, if_neg e]
      exact .cons ⟨rfl, h2⟩ (fr_put f r t)
theorem fr_len {K : PySem.W.Frag} {H : Hp} : ∀ {fs : List (Str × W)} {l : List (Str × V)}, FRep K H fs l → fs.length = l.length
  | _, _, .nil => rfl
  | _, _, .cons _ t => by simp [fr_len t]
theorem FRep.keep {K : PySem.W.Frag} {H H' : Hp} (kp : Kp H H') {fs : List (Str × W)} {l : List (Str × V)} (h : FRep K H fs l) : FRep K H' fs l := Paired.mapP h fun p q z => ⟨z.1, z.2.keep kp⟩
section
variable {X : Cx} {C f : Addr} {o e value : Expr} {es : List Expr} {fn m x : Str} {pos pos' apos p : Pos} {td tv te : TD} {t : TAd} {k : Nat} {fd : FuncData} {ps : List Str} {sp : SpD}
def dFld (C : Addr) (td : TD) (fn : Str) (τ : DS) (M : MH) (Q : QD) : Prop := td τ M fun w M1 => ∃ a fs v, w = .m a ∧ M1 a = some (.ins C fs) ∧ fs.lookup fn = some v ∧ Q v M1
theorem pd_fld (c : Cls X.K C) (n : NoAttr X.K C fn) (he : PD X e td) (hb : attributeBase e fn X.env (eval e X.env) = eval e X.env := by rfl) : PD X (.Attribute e fn pos) (dFld C td fn) := pe_w (pe_fld he hb) fun σ H Q h => by
  obtain ⟨τ, M, Qd, A, h, k⟩ := h
  refine ⟨τ, M, _, A, h, fun x H1 w M1 kp1 r1 m1 hq53 => ?_⟩
  obtain ⟨a, fs, v, ew, hm, hl, q⟩ := hq53
  subst ew
  obtain ⟨dx, l, e, pr⟩ := m1 _ _ hm
  have g := fr_lookup fn pr
  rw [hl] at g
  obtain ⟨b, eb, rb⟩ := OR.some_of g
  exact ⟨a, C, dx, l, b, r1, e, c, n, eb, k _ H1 v M1 kp1 rb m1 q⟩
def dFldPut (C : Addr) (td tv : TD) (fn : Str) (D : Ed) (τ : DS) (M : MH) : Prop := tv τ M fun v M1 => td τ M1 fun w M2 => ∃ a fs, w = .m a ∧ M2 a = some (.ins C fs) ∧ fs.length < 1000 ∧ D.nx τ (updM M2 a (.ins C (putW fn v fs)))
theorem psd_fld (c : Cls X.K C) (n : NoAttr X.K C fn) (ha : PD X o td) (hv : PD X value tv) (hs : swapsWith value (some (.Attribute o fn pos')) pos.line X.env = pure false := by rfl) : PSd X (.Assign [.Attribute o fn pos'] value pos) (dFldPut C td tv fn) := ps_w (ps_fld ha hv hs) fun D σ H h => by
  obtain ⟨τ, M, Dd, A, h, k1, _⟩ := h
  refine ⟨τ, M, _, A, h, fun v H1 wv M1 kp1 r1 m1 q1 => ⟨τ, M1, _, A.go kp1 m1, q1, fun x H2 w M2 kp2 r2 m2 hq54 => ?_⟩⟩
  obtain ⟨a, fs, ew, hm, hl, q2⟩ := hq54
  subst ew
  obtain ⟨dx, l, e, pr⟩ := m2 _ _ hm
  have kp4 : Kp H2 (upd H2 a (.ins C dx (putF fn v l))) := Kp.set e (fun _ z => nomatch z) (fun _ _ z => nomatch z)
  refine ⟨a, C, dx, l, r2, e, c, n, by rw [← fr_len pr]; exact hl, ?_⟩
  refine k1 _ _ _ _ ((kp1.trans kp2).trans kp4) (A.go ((kp1.trans kp2).trans kp4) (m2.put (mo := .ins C (putW fn wv fs)) kp4 ⟨dx, _, upd_same, ?_⟩)) q2
  exact FRep.keep kp4 (fr_put fn (r1.keep kp2) pr)
def dMeth (C : Addr) (m : Str) (sp : SpD) (td : TD) (t : TAd) (τ : DS) (M : MH) (Q : QD) : Prop := td τ M fun w M1 => ∃ a fs, w = .m a ∧ M1 a = some (.ins C fs) ∧ fs.lookup m = none ∧ t τ M1 fun ws M2 => sp (w :: ws) M2 Q
theorem imp_meth {σ : St} {H : Hp} {Q : VK} (h : up X.K (dMeth C m sp td t) σ H Q) : tMeth C m (upSp X.K sp) [] E0 (up X.K td) (upA X.K t) σ H Q := by
  obtain ⟨τ, M, Qd, A, h, k⟩ := h
  refine ⟨τ, M, _, A, h, fun x H1 w M1 kp1 r1 m1 hq55 => ?_⟩
  obtain ⟨a, fs, ew, hm, hl, q1⟩ := hq55
  subst ew
  obtain ⟨dx, l, e, pr⟩ := m1 _ _ hm
  have g := fr_lookup m pr
  rw [hl] at g
  refine ⟨a, dx, l, r1, e, OR.none_of g, τ, M1, _, A.go kp1 m1, q1, fun vs H2 ws M2 kp2 r2 m2 q2 => ?_⟩
  exact ⟨.m a :: ws, M2, Qd, by rw [List.append_nil]; exact .cons r1 r2, m2, q2, kgo (kgo k kp1) kp2⟩
theorem pd_meth {pl : Sem Bool} (he : PD X o td) (c : Cls X.K C) (hm : Meth X.K C m f) (F : FnOk X.prog X.w X.K X.mg X.base CX0 k f fd ps (upSp X.K sp)) (hr : Room k X.A) (hb : Binds X.K fd ps []) (ha : PAd X (e :: es) t)
    (ht : eval (.Call (.Attribute o m apos) (e :: es) [] pos) X.env = (do
      let ov ← eval o X.env
      standAt apos.atName
      let (f, first) ← holding [ov] (getMethod ov m pl)
      callWith pos f first (backTo pos (starEach (e :: es) X.env)) (backToKw pos (keywordEach [] X.env))) := by rfl)
    (h1 : isSt e = false := by rfl) (h2 : (es.all fun e => !isSt e) = true := by rfl) : PD X (.Call (.Attribute o m apos) (e :: es) [] pos) (dMeth C m sp td t) :=
  pe_w (pe_meth (E := E0) (dvs := []) he c hm F hr hb .nil pass0 ha (star_ok e es X.env h1) (plain_ok pos X.env es h2) ht) fun σ H Q h => imp_meth h
theorem pd_meth0 {pl : Sem Bool} (he : PD X o td) (c : Cls X.K C) (hm : Meth X.K C m f) (F : FnOk X.prog X.w X.K X.mg X.base CX0 k f fd ps (upSp X.K sp)) (hr : Room k X.A) (hb : Binds X.K fd ps [])
    (ht : eval (.Call (.Attribute o m apos) [] [] pos) X.env = (do
      let ov ← eval o X.env
      standAt apos.atName
      let (f, first) ← holding [ov] (getMethod ov m pl)
      callWith pos f first (backTo pos (starEach [] X.env)) (backToKw pos (keywordEach [] X.env))) := by rfl) : PD X (.Call (.Attribute o m apos) [] [] pos) (dMeth C m sp td dNil) :=
  pe_w (pe_meth0 (E := E0) (dvs := []) he c hm F hr hb .nil pass0 ht) fun σ H Q h => by
    obtain ⟨τ, M, Qd, A, h, k⟩ := h
    refine ⟨τ, M, _, A, h, fun x H1 w M1 kp1 r1 m1 hq56 => ?_⟩
    obtain ⟨a, fs, ew, hm, hl, q1⟩ := hq56
    subst ew
    obtain ⟨dx, l, e, pr⟩ := m1 _ _ hm
    have g := fr_lookup m pr
    rw [hl] at g
    exact ⟨a, dx, l, r1, e, OR.none_of g, .m a :: [], M1, Qd, .cons r1 .nil, m1, q1, kgo k kp1⟩
def dMake (C : Addr) (sp : SpD) (t : TAd) (τ : DS) (M : MH) (Q : QD) : Prop := t τ M fun ws M1 => ∀ a, M1 a = none → sp (.m a :: ws) (updM M1 a (.ins C [])) (fun v M2 => v = .d .none ∧ Q (.m a) M2)
theorem made_abs {H1 : Hp} {M1 : MH} {a dx : Addr} (m1 : MAbs X.K H1 M1) (ha : H1 a = none) (hd : H1 dx = none) (hn : dx ≠ a) : Kp H1 (upd (upd H1 dx (.own a)) a (.ins C dx [])) ∧ MAbs X.K (upd (upd H1 dx (.own a)) a (.ins C dx [])) (updM M1 a (.ins C [])) := by
  have k1 : Kp H1 (upd H1 dx (.own a)) := Kp.new hd
  have ha2 : (upd H1 dx (.own a)) a = none := by rw [upd_ne (Ne.symm hn)]; exact ha
  have k2 : Kp (upd H1 dx (.own a)) (upd (upd H1 dx (.own a)) a (.ins C dx [])) := Kp.new ha2
  exact ⟨k1.trans k2, (m1.new hd).put (mo := .ins C []) k2 ⟨dx, [], upd_same, .nil⟩⟩
theorem pd_make0 (Mk' : Mk X.K C f) (F : FnOk X.prog X.w X.K X.mg X.base CX0 k f fd ps (upSp X.K sp)) (hr : Room (k + 1) X.A) (hg : Gl X x) (hm : X.mg x = some (.ref C)) (hb : Binds X.K fd ps []) (hdb : (x == ("__debug__" : Str)) = false := by decide) :
    PD X (.Call (.Name x p) [] [] pos) (dMake C sp dNil) :=
  pe_w (pe_make0 (E := E0) (dvs := []) Mk' F hr hg hm hb .nil pass0 hdb) fun σ H Q h => by
    obtain ⟨τ, M, Qd, A, h, k⟩ := h
    intro a dx ha hd hn
    obtain ⟨kp2, m2⟩ := made_abs (X := X) (C := C) A.mem ha hd hn
    exact ⟨.m a :: [], _, _, .cons rfl .nil, m2, h a (A.mem.free ha), fun v H' w M' kp3 r3 m3 hq57 => by
      obtain ⟨e3, q3⟩ := hq57
      subst e3
      simp only [RepW, RepD] at r3
      exact ⟨r3, k _ H' (.m a) M' (kp2.trans kp3) rfl m3 q3⟩⟩
end
def delM (M : MH) (a : Addr) : MH := fun b => if b = a then none else M b
theorem delM_ne {M : MH} {a b : Addr} (h : b ≠ a) : delM M a b = M b := if_neg h
theorem MAbs.del {K : PySem.W.Frag} {H : Hp} {M : MH} {a : Addr} {o : HO} (m : MAbs K H M) (kp : Kp H (upd H a o)) : MAbs K (upd H a o) (delM M a) := fun b mo hm => by
  by_cases e : b = a
  · subst e; simp [delM] at hm
  · rw [delM_ne e] at hm
    exact (m b mo hm).keep kp fun u z => by rw [upd_ne e]; exact z
def one1 (R : W → MH → Prop) (ws : List W) (M : MH) : Prop := match ws with
  | [y] => R y M
  | _ => False
theorem one1_of {R : W → MH → Prop} {ws : List W} {M : MH} (h : one1 R ws M) : ∃ y, ws = [y] ∧ R y M := by
  match ws, h with
  | [y], h => exact ⟨y, rfl, h⟩
section
variable {X : Cx} {o e : Expr} {pos apos cpos : Pos} {td te : TD}
def dSeal (td : TD) (τ : DS) (M : MH) (Q : QD) : Prop := td τ M fun w M1 => ∃ a ds, w = .m a ∧ M1 a = some (.lst (ds.map W.d)) ∧ Q (.d (.list ds)) (delM M1 a)
theorem pd_seal (h : PD X e td) : PD X e (dSeal td) := pe_w (pe_frz h) fun σ H Q h => by
  obtain ⟨τ, M, Qd, A, h, k⟩ := h
  refine ⟨τ, M, _, A, h, fun x H1 w M1 kp1 r1 m1 hq58 => ?_⟩
  obtain ⟨a, ds, ew, hm, q⟩ := hq58
  subst ew
  obtain ⟨vs, e, ra⟩ := m1 _ _ hm
  refine ⟨a, _, r1, e, trivial, fun ob => ?_⟩
  have kp2 : Kp H1 (upd H1 a (.frz ob (.lst vs))) := Kp.set e (fun _ z => nomatch z) (fun _ _ z => nomatch z)
  refine k _ _ (.d (.list ds)) (delM M1 a) (kp1.trans kp2) ?_ (m1.del kp2) q
  simp only [RepW, RepD]
  exact ⟨a, vs, r1, .inl ⟨ob, upd_same⟩, ra.data.keep kp2⟩
def dAppend (td te : TD) (τ : DS) (M : MH) (Q : QD) : Prop := td τ M fun w M1 => ∃ a ws, w = .m a ∧ M1 a = some (.lst ws) ∧ te τ M1 fun y M2 => ∃ ws', M2 a = some (.lst ws') ∧ ws'.length < sizeLine ∧ Q (.d .none) (updM M2 a (.lst (ws' ++ [y])))
theorem pd_append (ho : PD X o td) (he : PD X e te)
    (hbase : attributeBase o "append" X.env (eval o X.env) = eval o X.env := by rfl)
    (hfew : ((backTo cpos (starEach [e] X.env)).all (fun x => !x.1) && (backToKw cpos (keywordEach [] X.env)).all (fun x => x.1.isSome)
      && decide (([e] : List Expr).length + ([] : List Keyword).length + (if ([] : List Keyword).isEmpty then 0 else 1) < 30)) = true := by rfl)
    (hline : (apos.endLine == cpos.line) = true := by rfl) (hs : isSt e = false := by rfl) : PD X (.Call (.Attribute o "append" apos) [e] [] cpos) (dAppend td te) :=
  pe_w (pe_bm PySem.F.plainAttrs_list PySem.F.slot_list_append PySem.F.type_list_append mt_append ho (pac he pad_nil hs) hbase hfew hline (star_ok e [] X.env hs) rfl) fun σ H Q h => by
    obtain ⟨τ, M, Qd, A, h, k⟩ := h
    refine ⟨τ, M, _, A, h, fun x H1 w M1 kp1 r1 m1 hq59 => ?_⟩
    obtain ⟨a, ws, ew, hm, q1⟩ := hq59
    subst ew
    obtain ⟨vs, ea, ra⟩ := m1 _ _ hm
    have r1' : x = .ref a := r1
    subst r1'
    refine ⟨.inl ⟨rfl, vs, .inl (.inl ea)⟩, τ, M1, one1 (fun y M2 => ∃ ws', M2 a = some (.lst ws') ∧ ws'.length < sizeLine ∧ Qd (.d .none) (updM M2 a (.lst (ws' ++ [y])))), A.go kp1 m1, q1, fun ys H2 wys M2 kp2 r2 m2 q2 => ?_⟩
    obtain ⟨y, ey, ws', hm2, hl, q4⟩ := one1_of q2
    subst ey
    obtain ⟨v, ev, rv⟩ := repWs1 r2
    subst ev
    obtain ⟨vs2, ea2, ra2⟩ := m2 _ _ hm2
    have kp4 : Kp H2 (upd H2 a (.lst (vs2 ++ [v]))) := Kp.set ea2 (fun _ z => nomatch z) (fun _ _ z => nomatch z)
    refine ⟨a, vs2, v, rfl, rfl, ea2, by rw [← ra2.length]; exact hl, ?_⟩
    exact k _ _ (.d .none) _ ((kp1.trans kp2).trans kp4) (by simp [RepW, RepD]) (m2.put (mo := .lst (ws' ++ [y])) kp4 ⟨_, upd_same, (RepWs.append ra2 (.cons rv .nil)).keep kp4⟩) q4
end
end D
set_option Elab.async false
set_option linter.all false
set_option maxRecDepth 100000
set_option maxHeartbeats 4000000
namespace D
open PySem PySem.Spec PyProof.Rows L2
def RepT (K : PySem.W.Frag) (H : Hp) (d : PyData) (x : V) : Prop := RepD K H d x ∨ ∃ a vs ds, d = .list ds ∧ x = .ref a ∧ H a = some (.lst vs) ∧ RepA K H ds vs
inductive DatW (M : MH) : W → PyData → Prop
  | d {x : PyData} : DatW M (.d x) x
  | l {a : Addr} {ds : List PyData} (h : M a = some (.lst (ds.map W.d))) : DatW M (.m a) (.list ds)
theorem DatW.sound {K : PySem.W.Frag} {H : Hp} {M : MH} {w : W} {d : PyData} {x : V} (g : DatW M w d) (r : RepW K H w x) (m : MAbs K H M) : RepT K H d x := by
  cases g with
  | d => exact .inl r
  | l h =>
    obtain ⟨vs, e, ra⟩ := m _ _ h
    exact .inr ⟨_, vs, _, rfl, r, e, ra.data⟩
section
variable {X : Cx} {pins : List (Addr × Obj)} {σ : St} {H : Hp} {s : Shared}
theorem thaw (I : Inv X pins σ H s) {d : PyData} {x : V} (h : RepT X.K H d x) : ∃ H', Inv X pins σ H' s ∧ RepD X.K H' d x := by
  rcases h with h | ⟨a, vs, ds, rfl, rfl, e, ra⟩
  · exact ⟨H, I, h⟩
  · obtain ⟨o, I2⟩ := I.freeze e trivial
    have kp : Kp H (upd H a (.frz o (.lst vs))) := Kp.set e (fun _ z => nomatch z) (fun _ _ z => nomatch z)
    refine ⟨_, I2, ?_⟩
    simp only [RepD]
    exact ⟨a, vs, rfl, .inl ⟨o, upd_same⟩, ra.keep kp⟩
theorem readsT_of (I : Inv X pins σ H s) (d : PyData) {x : V} {u : Value} (h : RepT X.K H d x) (r : RelV x u) (hd : d.hasDict = false) : ∃ as, Reads s.heap u d as := by
  obtain ⟨H', I', h'⟩ := thaw I h
  exact reads_of I' d h' r hd
end
section
variable {X : Cx}
theorem op_eqT {k : Nat} (hr : Room k X.A) : OpR X (compareOp .Eq) (fun x y H Q => ∃ d d', RepT X.K H d x ∧ RepT X.K H d' y ∧ eqOk2 d d' = true ∧ Q (.bl (PyData.eqv d d')) H) := by
  intro pins s σ H x y v u Q I rx ry h
  obtain ⟨d, d', h1, h2, o, q⟩ := h
  rcases eqOk2_cases o with ⟨a, b, e1, e2⟩ | ⟨o1, o2⟩
  · subst e1; subst e2
    rcases h1 with h1 | ⟨_, _, _, z, _⟩
    · rcases h2 with h2 | ⟨_, _, _, z, _⟩
      · exact op_eqD hr pins s σ H x y v u Q I rx ry ⟨_, _, h1, h2, o, q⟩
      · cases z
    · cases z
  simp only [eqOk, Bool.and_eq_true, Bool.not_eq_true'] at o1 o2
  obtain ⟨as, r1⟩ := readsT_of I d h1 rx o1.2
  obtain ⟨bs, r2⟩ := readsT_of I d' h2 ry o2.2
  exact eq_dataH r1 r2 o1.1 o2.1 hr.units ⟨.bl _, H, I, rfl, q⟩
theorem op_neT {k : Nat} (hr : Room k X.A) : OpR X (compareOp .NotEq) (fun x y H Q => ∃ d d', RepT X.K H d x ∧ RepT X.K H d' y ∧ eqOk2 d d' = true ∧ Q (.bl (!PyData.eqv d d')) H) := by
  intro pins s σ H x y v u Q I rx ry h
  obtain ⟨d, d', h1, h2, o, q⟩ := h
  rcases eqOk2_cases o with ⟨a, b, e1, e2⟩ | ⟨o1, o2⟩
  · subst e1; subst e2
    rcases h1 with h1 | ⟨_, _, _, z, _⟩
    · rcases h2 with h2 | ⟨_, _, _, z, _⟩
      · exact op_neD hr pins s σ H x y v u Q I rx ry ⟨_, _, h1, h2, o, q⟩
      · cases z
    · cases z
  simp only [eqOk, Bool.and_eq_true, Bool.not_eq_true'] at o1 o2
  obtain ⟨as, r1⟩ := readsT_of I d h1 rx o1.2
  obtain ⟨bs, r2⟩ := readsT_of I d' h2 ry o2.2
  exact ne_dataH r1 r2 o1.1 o2.1 hr.units ⟨.bl _, H, I, rfl, q⟩
end
section
variable {X : Cx} {K : PySem.W.Frag}
def rdEqT (w w' : W) (M : MH) (Q : QD) : Prop := ∃ d d', DatW M w d ∧ DatW M w' d' ∧ eqOk2 d d' = true ∧ Q (.d (.bool (PyData.eqv d d'))) M
def rdNeT (w w' : W) (M : MH) (Q : QD) : Prop := ∃ d d', DatW M w d ∧ DatW M w' d' ∧ eqOk2 d d' = true ∧ Q (.d (.bool (!PyData.eqv d d'))) M
theorem opd_eqT : OpD K (fun x y H Q => ∃ d d', RepT K H d x ∧ RepT K H d' y ∧ eqOk2 d d' = true ∧ Q (.bl (PyData.eqv d d')) H) rdEqT := by
  intro x y H w w' M Qd Q r1 r2 m ⟨d, d', g1, g2, o1, q⟩ k
  exact ⟨d, d', g1.sound r1 m, g2.sound r2 m, o1, k _ H (.d (.bool _)) M (Kp.refl H) (by simp [RepW, RepD]) m q⟩
theorem opd_neT : OpD K (fun x y H Q => ∃ d d', RepT K H d x ∧ RepT K H d' y ∧ eqOk2 d d' = true ∧ Q (.bl (!PyData.eqv d d')) H) rdNeT := by
  intro x y H w w' M Qd Q r1 r2 m ⟨d, d', g1, g2, o1, q⟩ k
  exact ⟨d, d', g1.sound r1 m, g2.sound r2 m, o1, k _ H (.d (.bool _)) M (Kp.refl H) (by simp [RepW, RepD]) m q⟩
inductive SeqW (M : MH) : W → List W → Prop
  | l {ds : List PyData} : SeqW M (.d (.list ds)) (ds.map W.d)
  | t {ds : List PyData} : SeqW M (.d (.tuple ds)) (ds.map W.d)
  | m {a : Addr} {ws : List W} (h : M a = some (.lst ws)) : SeqW M (.m a) ws
theorem SeqW.sound {H : Hp} {M : MH} {w : W} {ws : List W} {x : V} (g : SeqW M w ws) (r : RepW K H w x) (m : MAbs K H M) : ∃ p ys, x = .ref p ∧ (SqL K H p ys ∨ SqT K H p ys) ∧ RepWs K H ws ys := by
  cases g with
  | l =>
    simp only [RepW, RepD] at r
    obtain ⟨a, vs, e, hs, ra⟩ := r
    exact ⟨a, vs, e, .inl hs.sq, ra.ws⟩
  | t =>
    simp only [RepW, RepD] at r
    obtain ⟨a, vs, e, hs, ra⟩ := r
    exact ⟨a, vs, e, .inr hs, ra.ws⟩
  | m h =>
    obtain ⟨vs, e, ra⟩ := m _ _ h
    exact ⟨_, vs, r, .inl (.inl (.inl e)), ra⟩
def strsW (zs : List Str) : List W := zs.map fun z => .d (.str z)
theorem strs_rep {H : Hp} : ∀ {zs : List Str} {vs : List V}, RepWs K H (strsW zs) vs → vs = zs.map V.str
  | [], _, h => by cases h; rfl
  | z :: zs, _, h => by
    cases h with
    | cons r t =>
      simp only [RepW, RepD] at r
      rw [r, strs_rep t]
      rfl
theorem in_strs (z : Str) : ∀ zs : List Str, inV (.str z) (zs.map V.str) = decide (z ∈ zs)
  | [] => rfl
  | y :: zs => by
    have h : inV (.str z) ((y :: zs).map V.str) = ((y == z) || inV (.str z) (zs.map V.str)) := rfl
    rw [h, in_strs z zs]
    by_cases e : z = y
    · subst e; simp
    · have e' : (y == z) = false := by
        cases q : (y == z) with
        | false => rfl
        | true => exact absurd (eq_of_beq q).symm e
      rw [e']
      simp [e]
theorem flat_strs : ∀ zs : List Str, (zs.map V.str).all flatV = true
  | [] => rfl
  | _ :: zs => by simp [flatV]
def rdInL (neg : Bool) (w w' : W) (M : MH) (Q : QD) : Prop := ∃ z zs, w = .d (.str z) ∧ SeqW M w' (strsW zs) ∧ Q (.d (.bool (if neg then !decide (z ∈ zs) else decide (z ∈ zs)))) M
theorem opd_inS' (neg : Bool) : OpD K (rIn K neg) (rdInL neg) := by
  intro x y H w w' M Qd Q r1 r2 m ⟨z, zs, ew, g, q⟩ k
  subst ew
  simp only [RepW, RepD] at r1
  subst r1
  obtain ⟨p, ys, ey, hs, rs⟩ := g.sound r2 m
  have e := strs_rep rs
  subst e
  refine ⟨p, _, ey, hs, rfl, flat_strs zs, ?_⟩
  rw [in_strs]
  exact k _ H (.d (.bool _)) M (Kp.refl H) (by simp [RepW, RepD]) m q
inductive TruW (M : MH) : W → Bool → Prop
  | n : TruW M (.d .none) false
  | b {k : Bool} : TruW M (.d (.bool k)) k
  | i {k : Int} : TruW M (.d (.int k)) (k != 0)
  | s {z : Str} (h : z.length ≤ sizeLine) : TruW M (.d (.str z)) ((z.length : Int) != 0)
  | l {ds : List PyData} : TruW M (.d (.list ds)) (!ds.isEmpty)
  | t {ds : List PyData} : TruW M (.d (.tuple ds)) (!ds.isEmpty)
  | m {a : Addr} {ws : List W} (h : M a = some (.lst ws)) : TruW M (.m a) (!ws.isEmpty)
  | dk {a : Addr} {kvs : List (Key × W)} (h : M a = some (.dic kvs)) : TruW M (.m a) (!kvs.isEmpty)
theorem empty_len {α β : Type} {xs : List α} {ys : List β} (h : xs.length = ys.length) : xs.isEmpty = ys.isEmpty := by
  cases xs <;> cases ys <;> simp at h ⊢
theorem TruW.sound {H : Hp} {M : MH} {w : W} {b : Bool} {x : V} (g : TruW M w b) (r : RepW K H w x) (m : MAbs K H M) : TruV K x H b := by
  cases g with
  | n => simp only [RepW, RepD] at r; subst r; rfl
  | b => simp only [RepW, RepD] at r; subst r; rfl
  | i => simp only [RepW, RepD] at r; subst r; rfl
  | s h => simp only [RepW, RepD] at r; subst r; exact ⟨h, rfl⟩
  | l =>
    simp only [RepW, RepD] at r
    obtain ⟨a, vs, e, hs, ra⟩ := r
    subst e
    exact .inl ⟨vs, hs.sq, by rw [empty_len ra.length]⟩
  | t =>
    simp only [RepW, RepD] at r
    obtain ⟨a, vs, e, hs, ra⟩ := r
    subst e
    exact .inr (.inl ⟨vs, hs, by rw [empty_len ra.length]⟩)
  | m h =>
    obtain ⟨vs, e, ra⟩ := m _ _ h
    have r' : x = .ref _ := r
    subst r'
    exact .inl ⟨vs, .inl (.inl e), by rw [empty_len ra.length]⟩
  | dk h =>
    obtain ⟨l, e, pr⟩ := m _ _ h
    have r' : x = .ref _ := r
    subst r'
    exact .inr (.inr ⟨l, e, by rw [empty_len (tb_len pr)]⟩)
def rdInt (ws : List W) (M : MH) (Q : QD) : Prop := (∃ i, ws = [.d (.int i)] ∧ Q (.d (.int i)) M) ∨ ∃ b, ws = [.d (.bool b)] ∧ Q (.d (.int (if b then 1 else 0))) M
theorem cd_int : CallD K (fun xs H Q => (∃ i, xs = [.int i] ∧ Q (.int i) H) ∨ ∃ k, xs = [.bl k] ∧ Q (.int (if k then 1 else 0)) H) rdInt := by
  intro vs H ws M Qd Q r m h k
  rcases h with ⟨i, e, q⟩ | ⟨b, e, q⟩
  · subst e
    obtain ⟨v, e1, r1⟩ := repWs1 r
    simp only [RepW, RepD] at r1
    subst r1
    exact .inl ⟨i, e1, k _ H (.d (.int i)) M (Kp.refl H) (by simp [RepW, RepD]) m q⟩
  · subst e
    obtain ⟨v, e1, r1⟩ := repWs1 r
    simp only [RepW, RepD] at r1
    subst r1
    exact .inr ⟨b, e1, k _ H (.d (.int _)) M (Kp.refl H) (by simp [RepW, RepD]) m q⟩
def rdMax2 (ws : List W) (M : MH) (Q : QD) : Prop := ∃ i j, ws = [.d (.int i), .d (.int j)] ∧ Q (.d (.int (if j > i then j else i))) M
theorem cd_max2 : CallD K (fun xs H Q => ∃ i j, xs = [V.int i, V.int j] ∧ Q (V.int (if j > i then j else i)) H) rdMax2 := by
  intro vs H ws M Qd Q r m ⟨i, j, e, q⟩ k
  subst e
  obtain ⟨v, v', e1, r1, r2⟩ := repWs2 r
  simp only [RepW, RepD] at r1 r2
  subst r1 r2
  exact ⟨i, j, e1, k _ H (.d (.int _)) M (Kp.refl H) (by simp [RepW, RepD]) m q⟩
end
end D
set_option Elab.async false
set_option linter.all false
set_option maxRecDepth 100000
set_option maxHeartbeats 4000000
namespace D
open PySem PySem.Spec PyProof.Rows L2
section
variable {X : Cx} {K : PySem.W.Frag}
inductive LstW (M : MH) : W → List PyData → Prop
  | d {ds : List PyData} : LstW M (.d (.list ds)) ds
  | m {a : Addr} {ds : List PyData} (h : M a = some (.lst (ds.map W.d))) : LstW M (.m a) ds
theorem LstW.sound {H : Hp} {M : MH} {w : W} {ds : List PyData} {x : V} (g : LstW M w ds) (r : RepW K H w x) (m : MAbs K H M) : ∃ p ys, x = .ref p ∧ SqL K H p ys ∧ RepA K H ds ys := by
  cases g with
  | d =>
    simp only [RepW, RepD] at r
    obtain ⟨a, vs, e, hs, ra⟩ := r
    exact ⟨a, vs, e, hs.sq, ra⟩
  | m h =>
    obtain ⟨vs, e, ra⟩ := m _ _ h
    exact ⟨_, vs, r, .inl (.inl e), ra.data⟩
end
abbrev TGsd := List W → DS → MH → (DS → MH → Prop) → Prop
def upGs (K : PySem.W.Frag) (g : TGsd) : TGs := fun vs σ H Q => ∃ ws τ M Qd, RepWs K H ws vs ∧ Abs K H σ τ M ∧ g ws τ M Qd ∧ ∀ σ' H' τ' M', Kp H H' → Abs K H' σ' τ' M' → Qd τ' M' → Q σ' H'
abbrev PGsd (X : Cx) (es : List Expr) (g : TGsd) : Prop := PGs X es (upGs X.K g)
theorem pgs_w {X : Cx} {es : List Expr} {g g' : TGs} (h : PGs X es g) (k : ∀ v σ H Q, g' v σ H Q → g v σ H Q) : PGs X es g' := fun pins s σ H v u Q I r q => h pins s σ H v u Q I r (k v σ H Q q)
section
variable {X : Cx} {pos : Pos} {e : Expr} {es : List Expr}
def gsNil (ws : List W) (τ : DS) (M : MH) (Q : DS → MH → Prop) : Prop := ws = [] ∧ Q τ M
def gsCons (g : TGd) (gs : TGsd) (ws : List W) (τ : DS) (M : MH) (Q : DS → MH → Prop) : Prop := ∃ w r, ws = w :: r ∧ g w τ M fun τ' M' => gs r τ' M' Q
theorem pgsd_nil : PGsd X [] gsNil := pgs_w pgs_nil fun vs σ H Q hq60 => by
  obtain ⟨ws, τ, M, Qd, r, A, ⟨e, q⟩, k⟩ := hq60
  subst e
  cases r
  exact ⟨rfl, k σ H τ M (Kp.refl H) A q⟩
theorem pgsd_cons {g : TGd} {gs : TGsd} (h1 : PGd X e g) (h2 : PGsd X es gs) (hs : (assignEach (e :: es) X.env).map (·.2) = assign e X.env :: (assignEach es X.env).map (·.2) := by rfl) : PGsd X (e :: es) (gsCons g gs) :=
  pgs_w (pgs_cons h1 h2 hs) fun vs σ H Q hq61 => by
    obtain ⟨ws, τ, M, Qd, r, A, ⟨w, wr, ew, q⟩, k⟩ := hq61
    subst ew
    cases r with
    | cons r1 r2 =>
      refine ⟨_, _, rfl, w, τ, M, _, r1, A, q, fun σ1 H1 τ1 M1 kp1 A1 q1 => ?_⟩
      exact ⟨wr, τ1, M1, Qd, RepWs.keep kp1 r2, A1, q1, fun σ2 H2 τ2 M2 kp2 A2 q2 => k σ2 H2 τ2 M2 (kp1.trans kp2) A2 q2⟩
def gT (n : Nat) (gs : TGsd) (w : W) (τ : DS) (M : MH) (Q : DS → MH → Prop) : Prop := ∃ ds, w = .d (.tuple ds) ∧ ds.length = n ∧ gs (ds.map W.d) τ M Q
theorem pgd_tup {k n : Nat} {gs : TGsd} (hc : X.calm = true) (h : PGsd X es gs) (hn : (assignEach es X.env).length = n := by rfl) (hst : (assignEach es X.env).findIdx? (·.1) = none := by rfl) : PGd X (.Tuple es k pos) (gT n gs) :=
  pg_w (pg_tup hc h hn hst) fun v σ H Q hq62 => by
    obtain ⟨w, τ, M, Qd, r, A, ⟨ds, ew, hl, q⟩, kk⟩ := hq62
    subst ew
    simp only [RepW, RepD] at r
    obtain ⟨a, vs, ev, hs, ra⟩ := r
    exact ⟨a, vs, ev, hs, by rw [ra.length]; exact hl, ds.map W.d, τ, M, Qd, ra.ws, A, q, kk⟩
end
end D
set_option Elab.async false
set_option linter.all false
set_option maxRecDepth 100000
set_option maxHeartbeats 4000000
namespace D
open PySem PySem.Spec PyProof.Rows L2
structure Mf (K : PySem.W.Frag) (C : Addr) (x qual : Str) (st : Stmt) (ps : List Str) (f : Addr) (fd : FuncData) : Prop where
  fn : Fun K x qual st f fd
  me : Meth K C x f
  bd : Binds K fd ps []
structure Mi (K : PySem.W.Frag) (C : Addr) (qual : Str) (st : Stmt) (ps : List Str) (f : Addr) (fd : FuncData) : Prop where
  fn : Fun K "__init__" qual st f fd
  mi : Mk K C f
  bd : Binds K fd ps []
section
variable {K : PySem.W.Frag} {C : Addr}
theorem mf_mk {x qual : Str} {st : Stmt} {ps : List Str} {f : Addr} {oc : Value} {od an : Option Addr} {osl : Array (Option Value)} {kV doc pm cdv ct : Value} (a : PySem.W.findIn K (.ref C) x = some (some (.ref f))) (i : PySem.W.isFn K (.ref f) = true)
    (l : K.lookup f = some ⟨oc, od, .func (PySem.W.fnOf x qual (defArgs st) (defBody st) (defScope st) .none kV doc pm an cdv ct), osl⟩) (c : PySem.W.codeIn K cdv qual = true) (k : PySem.W.keepIn K (.ref f) = true)
    (b : ∀ (kV doc pm : Value) (an : Option Addr) (cdv ct : Value) (us : List Value), us.length = ps.length → bindArgs (PySem.W.fnOf x qual (defArgs st) (defBody st) (defScope st) .none kV doc pm an cdv ct) ⟨us, []⟩ = pure (ps.zip us)) :
    Mf K C x qual st ps f (PySem.W.fnOf x qual (defArgs st) (defBody st) (defScope st) .none kV doc pm an cdv ct) :=
  have F := fun_mk (st := st) l c k
  ⟨F, ⟨a, i, k⟩, F.binds b⟩
theorem mi_mk {qual : Str} {st : Stmt} {ps : List Str} {f : Addr} {oc : Value} {od an : Option Addr} {osl : Array (Option Value)} {kV doc pm cdv ct : Value} (a : PySem.W.findIn K (.ref C) "__init__" = some (some (.ref f))) (i : PySem.W.isFn K (.ref f) = true)
    (l : K.lookup f = some ⟨oc, od, .func (PySem.W.fnOf "__init__" qual (defArgs st) (defBody st) (defScope st) .none kV doc pm an cdv ct), osl⟩) (c : PySem.W.codeIn K cdv qual = true) (k : PySem.W.keepIn K (.ref f) = true)
    (mk : PySem.W.makesIn K C = true) (kc : PySem.W.keepIn K (.ref C) = true)
    (b : ∀ (kV doc pm : Value) (an : Option Addr) (cdv ct : Value) (us : List Value), us.length = ps.length → bindArgs (PySem.W.fnOf "__init__" qual (defArgs st) (defBody st) (defScope st) .none kV doc pm an cdv ct) ⟨us, []⟩ = pure (ps.zip us)) :
    Mi K C qual st ps f (PySem.W.fnOf "__init__" qual (defArgs st) (defBody st) (defScope st) .none kV doc pm an cdv ct) :=
  have F := fun_mk (st := st) l c k
  ⟨F, ⟨mk, a, i, kc⟩, F.binds b⟩
end
section
variable {X : Cx} {pos p : Pos} {e : Expr} {es : List Expr} {t : TAd} {x : Str} {T : String} {r : List V → Hp → VK → Prop} {rd : List W → MH → QD → Prop}
theorem pcT (hc : CallR X (.type T) r) (hd : CallD X.K r rd) (hg : Gl X x) (hm : X.mg x = none) (hv : bootBuiltins x = some (.type T)) (ha : PAd X (e :: es) t) (hn : x ≠ "__name__" := by decide) (hdb : (x == ("__debug__" : Str)) = false := by decide)
    (h1 : isSt e = false := by rfl) (h2 : (es.all fun e => !isSt e) = true := by rfl) : PD X (.Call (.Name x p) (e :: es) [] pos) (dCB rd t) := pd_callTy hc hd hg hm hv ha hn hdb (star_ok e es X.env h1) (plain_ok pos X.env es h2)
end
theorem bb_max : bootBuiltins "max" = some (.builtin "max") := by decide +kernel
end D
set_option Elab.async false
set_option linter.all false
set_option maxRecDepth 100000
set_option maxHeartbeats 4000000
namespace D
open PySem PySem.Spec PyProof.Rows L2
namespace Q
section
variable {X : Cx} {o i e f : Expr} {pos apos cpos : Pos} {td ty tx : TE}
end
section
variable {X : Cx} {o i e f value : Expr} {es : List Expr} {pos pos' apos cpos : Pos} {td ti tx tv : TD} {t : TAd}
theorem pd_newDic  : Jd (PD X (.Dict [] [] pos) dNewDic) := ⟨D.pd_newDic ⟩
theorem ptd_dnotin (hu : X.A.units + 1 < cLine) (hi : Jd (PD X i ti)) (ho : Jd (PD X o td)) (hm : behindInMarks .NotIn o = false := by rfl) : Jd (PTd X (.Compare i [.NotIn] [o] pos) (dTest (dDNotIn ti td))) := ⟨D.ptd_dnotin (hu := hu) (hi := hi.h) (ho := ho.h) (hm := hm)⟩
theorem pd_dget (hu : X.A.units + 1 < cLine) (ho : Jd (PD X o td)) (hi : Jd (PD X i ti)) (hs : NoSl i := by exact fun _ _ => rfl) : Jd (PD X (.Subscript o i pos) (dDGet td ti)) := ⟨D.pd_dget (hu := hu) (ho := ho.h) (hi := hi.h) (hs := hs)⟩
theorem psd_dput (hu : X.A.units + 1 < cLine) (ho : Jd (PD X o td)) (hi : Jd (PD X i ti)) (hv : Jd (PD X value tv)) (hs : swapsWith value (some (.Subscript o i pos')) pos.line X.env = pure false := by rfl) : Jd (PSd X (.Assign [.Subscript o i pos'] value pos) (dDPut td ti tv)) := ⟨D.psd_dput (hu := hu) (ho := ho.h) (hi := hi.h) (hv := hv.h) (hs := hs)⟩
end
section
variable {X : Cx} {C f : Addr} {o e value : Expr} {es : List Expr} {fn m x : Str} {pos pos' apos p : Pos} {td tv te : TD} {t : TAd} {k : Nat} {fd : FuncData} {ps : List Str} {sp : SpD}
theorem pd_fld (c : Cls X.K C) (n : NoAttr X.K C fn) (he : Jd (PD X e td)) (hb : attributeBase e fn X.env (eval e X.env) = eval e X.env := by rfl) : Jd (PD X (.Attribute e fn pos) (dFld C td fn)) := ⟨D.pd_fld (c := c) (n := n) (he := he.h) (hb := hb)⟩
theorem psd_fld (c : Cls X.K C) (n : NoAttr X.K C fn) (ha : Jd (PD X o td)) (hv : Jd (PD X value tv)) (hs : swapsWith value (some (.Attribute o fn pos')) pos.line X.env = pure false := by rfl) : Jd (PSd X (.Assign [.Attribute o fn pos'] value pos) (dFldPut C td tv fn)) := ⟨D.psd_fld (c := c) (n := n) (ha := ha.h) (hv := hv.h) (hs := hs)⟩
theorem pd_meth {pl : Sem Bool} (he : Jd (PD X o td)) (c : Cls X.K C) (hm : Meth X.K C m f) (F : FnOk X.prog X.w X.K X.mg X.base CX0 k f fd ps (upSp X.K sp)) (hr : Room k X.A) (hb : Binds X.K fd ps []) (ha : Jd (PAd X (e :: es) t)) (ht : eval (.Call (.Attribute o m apos) (e :: es) [] pos) X.env = (do
      let ov ← eval o X.env
      standAt apos.atName
      let (f, first) ← holding [ov] (getMethod ov m pl)
      callWith pos f first (backTo pos (starEach (e :: es) X.env)) (backToKw pos (keywordEach [] X.env))) := by rfl) (h1 : isSt e = false := by rfl) (h2 : (es.all fun e => !isSt e) = true := by rfl) : Jd (PD X (.Call (.Attribute o m apos) (e :: es) [] pos) (dMeth C m sp td t)) := ⟨D.pd_meth (he := he.h) (c := c) (hm := hm) (F := F) (hr := hr) (hb := hb) (ha := ha.h) (ht := ht) (h1 := h1) (h2 := h2)⟩
theorem pd_meth0 {pl : Sem Bool} (he : Jd (PD X o td)) (c : Cls X.K C) (hm : Meth X.K C m f) (F : FnOk X.prog X.w X.K X.mg X.base CX0 k f fd ps (upSp X.K sp)) (hr : Room k X.A) (hb : Binds X.K fd ps []) (ht : eval (.Call (.Attribute o m apos) [] [] pos) X.env = (do
      let ov ← eval o X.env
      standAt apos.atName
      let (f, first) ← holding [ov] (getMethod ov m pl)
      callWith pos f first (backTo pos (starEach [] X.env)) (backToKw pos (keywordEach [] X.env))) := by rfl) : Jd (PD X (.Call (.Attribute o m apos) [] [] pos) (dMeth C m sp td dNil)) := ⟨D.pd_meth0 (he := he.h) (c := c) (hm := hm) (F := F) (hr := hr) (hb := hb) (ht := ht)⟩
theorem pd_make0 (Mk' : Mk X.K C f) (F : FnOk X.prog X.w X.K X.mg X.base CX0 k f fd ps (upSp X.K sp)) (hr : Room (k + 1) X.A) (hg : Gl X x) (hm : X.mg x = some (.ref C)) (hb : Binds X.K fd ps []) (hdb : (x == ("__debug__" : Str)) = false := by decide) : Jd (PD X (.Call (.Name x p) [] [] pos) (dMake C sp dNil)) := ⟨D.pd_make0 (Mk' := Mk') (F := F) (hr := hr) (hg := hg) (hm := hm) (hb := hb) (hdb := hdb)⟩
end
section
variable {X : Cx} {o e : Expr} {pos apos cpos : Pos} {td te : TD}
theorem pd_seal (h : Jd (PD X e td)) : Jd (PD X e (dSeal td)) := ⟨D.pd_seal (h := h.h)⟩
theorem pd_append (ho : Jd (PD X o td)) (he : Jd (PD X e te)) (hbase : attributeBase o "append" X.env (eval o X.env) = eval o X.env := by rfl) (hfew : ((backTo cpos (starEach [e] X.env)).all (fun x => !x.1) && (backToKw cpos (keywordEach [] X.env)).all (fun x => x.1.isSome)
      && decide (([e] : List Expr).length + ([] : List Keyword).length + (if ([] : List Keyword).isEmpty then 0 else 1) < 30)) = true := by rfl) (hline : (apos.endLine == cpos.line) = true := by rfl) (hs : isSt e = false := by rfl) : Jd (PD X (.Call (.Attribute o "append" apos) [e] [] cpos) (dAppend td te)) := ⟨D.pd_append (ho := ho.h) (he := he.h) (hbase := hbase) (hfew := hfew) (hline := hline) (hs := hs)⟩
end
section
variable {X : Cx} {pins : List (Addr × Obj)} {σ : St} {H : Hp} {s : Shared}
end
section
variable {X : Cx}
end
section
variable {X : Cx} {K : PySem.W.Frag}
end
section
variable {X : Cx} {K : PySem.W.Frag}
end
section
variable {X : Cx} {pos : Pos} {e : Expr} {es : List Expr}
theorem pgsd_nil  : Jd (PGsd X [] gsNil) := ⟨D.pgsd_nil ⟩
theorem pgsd_cons {g : TGd} {gs : TGsd} (h1 : Jd (PGd X e g)) (h2 : Jd (PGsd X es gs)) (hs : (assignEach (e :: es) X.env).map (·.2) = assign e X.env :: (assignEach es X.env).map (·.2) := by rfl) : Jd (PGsd X (e :: es) (gsCons g gs)) := ⟨D.pgsd_cons (h1 := h1.h) (h2 := h2.h) (hs := hs)⟩
theorem pgd_tup {k n : Nat} {gs : TGsd} (hc : X.calm = true) (h : Jd (PGsd X es gs)) (hn : (assignEach es X.env).length = n := by rfl) (hst : (assignEach es X.env).findIdx? (·.1) = none := by rfl) : Jd (PGd X (.Tuple es k pos) (gT n gs)) := ⟨D.pgd_tup (hc := hc) (h := h.h) (hn := hn) (hst := hst)⟩
end
section
variable {K : PySem.W.Frag} {C : Addr}
end
section
variable {X : Cx} {pos p : Pos} {e : Expr} {es : List Expr} {t : TAd} {x : Str} {T : String} {r : List V → Hp → VK → Prop} {rd : List W → MH → QD → Prop}
theorem pcT (hc : CallR X (.type T) r) (hd : CallD X.K r rd) (hg : Gl X x) (hm : X.mg x = none) (hv : bootBuiltins x = some (.type T)) (ha : Jd (PAd X (e :: es) t)) (hn : x ≠ "__name__" := by decide) (hdb : (x == ("__debug__" : Str)) = false := by decide) (h1 : isSt e = false := by rfl) (h2 : (es.all fun e => !isSt e) = true := by rfl) : Jd (PD X (.Call (.Name x p) (e :: es) [] pos) (dCB rd t)) := ⟨D.pcT (hc := hc) (hd := hd) (hg := hg) (hm := hm) (hv := hv) (ha := ha.h) (hn := hn) (hdb := hdb) (h1 := h1) (h2 := h2)⟩
end
end Q
end D
set_option Elab.async false
set_option linter.all false
set_option maxRecDepth 100000
set_option maxHeartbeats 4000000
namespace D
open PySem PySem.Spec PyProof.Rows L2
def Asc (z : Str) : Prop := ∀ c ∈ z.cps.toList, c < 128
theorem str_len (z : Str) : z.cps.toList.length = z.length := by simp [Str.length]
theorem asc_app {x y : Str} (hx : Asc x) (hy : Asc y) : Asc (x ++ y) := by
  intro c hc
  have e : (x ++ y).cps.toList = x.cps.toList ++ y.cps.toList := by show (x.cps ++ y.cps).toList = _; simp
  rw [e] at hc
  rcases List.mem_append.mp hc with h | h
  · exact hx c h
  · exact hy c h
theorem len_app (x y : Str) : (x ++ y).length = x.length + y.length := by show (x.cps ++ y.cps).size = _; simp [Str.length]
theorem asc_slice {z : Str} (h : Asc z) (lo hi : Option Int) : Asc (Txt.slice z lo hi) := by
  unfold Txt.slice
  split
  · exact h
  · intro c hc
    have hc' : c ∈ (Builtin.Str.strSliceIndices lo hi 1 z.length).filterMap (z.cps[·]?) := by simpa using hc
    obtain ⟨i, _, e⟩ := List.mem_filterMap.mp hc'
    exact h c (by simpa using Array.mem_of_getElem? e)
theorem glue_fold (g : Array Nat) (hg : ∀ c ∈ g.toList, c < 128) : ∀ (l : List Str) (acc : Array Nat), (∀ c ∈ acc.toList, c < 128) → (∀ p ∈ l, Asc p) →
    (∀ c ∈ (l.foldl (fun acc p => acc ++ g ++ p.cps) acc).toList, c < 128) ∧ (l.foldl (fun acc p => acc ++ g ++ p.cps) acc).size = acc.size + (l.map fun p => g.size + p.length).sum
  | [], acc, ha, _ => ⟨ha, by simp⟩
  | p :: l, acc, ha, hl => by
    have h := glue_fold g hg l (acc ++ g ++ p.cps) (fun c hc => by
      simp only [Array.toList_append, List.mem_append] at hc
      rcases hc with (h | h) | h
      · exact ha c h
      · exact hg c h
      · exact hl p List.mem_cons_self c h) fun q hq => hl q (List.mem_cons_of_mem _ hq)
    refine ⟨h.1, ?_⟩
    rw [List.foldl_cons, h.2]
    simp only [Array.size_append, List.map_cons, List.sum_cons, Str.length]
    omega
theorem join_asc {sep : Str} {ys : List Str} (hs : Asc sep) (hy : ∀ y ∈ ys, Asc y) : Asc (Txt.join sep ys) ∧ (Txt.join sep ys).length ≤ (ys.map fun p => sep.length + p.length).sum := by
  cases ys with
  | nil => exact ⟨fun c hc => by simp [Txt.join, Builtin.Str.glued, Str.empty] at hc, by simp [Txt.join, Builtin.Str.glued, Str.empty, Str.length]⟩
  | cons y ys =>
    have h := glue_fold sep.cps hs ys y.cps (hy y List.mem_cons_self) fun p hp => hy p (List.mem_cons_of_mem _ hp)
    refine ⟨h.1, ?_⟩
    show (ys.foldl (fun acc p => acc ++ sep.cps ++ p.cps) y.cps).size ≤ _
    rw [h.2]
    simp only [List.map_cons, List.sum_cons, Str.length]
    omega
theorem sum_le {l : List Str} {n : Nat} (h : ∀ y ∈ l, y.length ≤ n) (k : Nat) : (l.map fun p => k + p.length).sum ≤ l.length * (k + n) := by
  induction l with
  | nil => simp
  | cons y l ih =>
    have h1 := h y List.mem_cons_self
    have h2 := ih fun z hz => h z (List.mem_cons_of_mem _ hz)
    simp only [List.map_cons, List.sum_cons, List.length_cons, Nat.add_mul, Nat.one_mul]
    omega
def Tx (n : Nat) (d : PyData) : Prop := ∃ z : Str, d = .str z ∧ z.length ≤ n ∧ Asc z
theorem tx_list {n : Nat} : ∀ {ds : List PyData}, (∀ d ∈ ds, Tx n d) → ∃ ys : List Str, ds = ys.map PyData.str ∧ ∀ y ∈ ys, y.length ≤ n ∧ Asc y
  | [], _ => ⟨[], rfl, fun y h => (nomatch h)⟩
  | d :: ds, h => by
    obtain ⟨z, e, h1, h2⟩ := h d List.mem_cons_self
    obtain ⟨ys, e2, h3⟩ := tx_list fun d' hd' => h d' (List.mem_cons_of_mem _ hd')
    refine ⟨z :: ys, by rw [e, e2]; rfl, fun y hy => ?_⟩
    rcases List.mem_cons.mp hy with rfl | hy
    · exact ⟨h1, h2⟩
    · exact h3 y hy
theorem asc_dec {z : Str} (h : z.cps.all (· < 128) = true) : Asc z := by
  intro c hc
  have := Array.all_eq_true_iff_forall_mem.mp h c (by simpa using hc)
  simpa using this
theorem asc_one {z : Str} {c : Nat} (h : Asc z) (hc : c ∈ z.cps.toList) : Asc ⟨#[c]⟩ := by
  intro d hd
  have : d = c := by simpa using hd
  rw [this]
  exact h c hc
theorem ix_str_at {M : MH} {z : Str} {r : Int} (h0 : 0 ≤ r) (h1 : r < z.length) : ∃ c, ixW M (.d (.str z)) r = some (.d (.str ⟨#[c]⟩)) ∧ c ∈ z.cps.toList := by
  have hl : r < (z.cps.toList.length : Nat) := by rw [str_len]; exact h1
  refine ⟨z.cps.toList[r.toNat]'(by omega), ?_, List.getElem_mem _⟩
  simp only [ixW]
  rw [atI_nn h0 hl]
  rfl
abbrev alphaS : Str := "abcdefghijklmnopqrstuvwxyz"
theorem alphaL : alphaS.length = 26 := by decide +kernel
theorem alphaA : Asc alphaS := asc_dec (by decide +kernel)
theorem asc_b {z : Str} (h : Asc z) : ascB z = true := by
  unfold ascB
  rw [Array.all_eq_true_iff_forall_mem]
  intro c hc
  exact decide_eq_true (h c (by simpa using hc))
theorem log2_small {n : Nat} (h : n < 2 ^ 100) : n.log2 < 1920 := by
  by_cases h0 : n = 0
  · subst h0; decide
  · exact Nat.lt_of_lt_of_le ((Nat.log2_lt h0).mpr h) (by decide)
theorem few {n : Nat} (h : n ≤ 1000) : n ≤ sizeLine := by have := s16; omega
end D
set_option Elab.async false
set_option linter.all false
set_option maxRecDepth 100000
set_option maxHeartbeats 4000000
namespace D
open PySem PySem.Spec PyProof.Rows L2
section
variable {X : Cx} {pins : List (Addr × Obj)} {σ : St} {H H0 : Hp} {s s0 : Shared}
theorem Inv.swap {a : Addr} {u u' : HO} (I : Inv X pins σ H s) (h : H a = some u) (n1 : ∀ xs, u ≠ .tup xs) (n2 : ∀ x, u ≠ .own x) (b1 : ∀ xs, X.H₀ a ≠ some (.tup xs)) (b2 : ∀ o v, X.H₀ a ≠ some (.frz o v)) (b3 : ∀ ps, X.H₀ a ≠ some (.tbl ps))
    (new : ObjOk X.prog X.w (upd H a u') s.heap a u') : Inv X pins σ (upd H a u') s := by
  have nn : ∀ b, H b = none → b ≠ a := fun b e z => by rw [z, h] at e; cases e
  refine ⟨I.ok, I.os, I.bare, ⟨I.base.keep, I.base.slot, fun b ob q n x => ?_, I.base.there, fun b xs q => ?_, fun b ob v q => ?_, fun b ps q => ?_⟩, I.loc, I.cell, ?_, fun x c q => ?_, fun p hp => ?_, fun b v q => ?_, I.len⟩
  · have := I.base.free b ob q n x
    rw [upd_ne (nn b this)]; exact this
  · rw [upd_ne (fun z : b = a => b1 xs (by rw [← z]; exact q))]; exact I.base.tups b xs q
  · rw [upd_ne (fun z : b = a => b2 ob v (by rw [← z]; exact q))]; exact I.base.frzs b ob v q
  · rw [upd_ne (fun z : b = a => b3 ps (by rw [← z]; exact q))]; exact I.base.tbls b ps q
  · rw [upd_ne (nn _ I.free)]; exact I.free
  · have := I.freeC x c q
    rw [upd_ne (nn c this)]; exact this
  · obtain ⟨p1, p2, p3⟩ := I.pin p hp
    exact ⟨p1, by rw [upd_ne (nn _ p2)]; exact p2, p3⟩
  · by_cases hb : b = a
    · subst hb
      rw [upd_same] at q
      cases q
      exact new
    · rw [upd_ne hb] at q
      refine (I.hok b v q).stay (fun _ _ _ q => q) (fun c r => ?_) fun c xs r => ?_
      · rw [upd_ne (fun z => by rw [z, h] at r; exact n2 _ (Option.some.inj r))]; exact r
      · rw [upd_ne (fun z => by rw [z, h] at r; exact n1 _ (Option.some.inj r))]; exact r
theorem base_of {a : Addr} {l : List (Key × V)} (I : Inv X pins σ H s) (h : H a = some (.dK l)) : (∀ xs, X.H₀ a ≠ some (.tup xs)) ∧ (∀ o v, X.H₀ a ≠ some (.frz o v)) ∧ ∀ ps, X.H₀ a ≠ some (.tbl ps) := by
  refine ⟨fun xs e => ?_, fun o v e => ?_, fun ps e => ?_⟩
  · have := I.base.tups a xs e; rw [h] at this; cases this
  · have := I.base.frzs a o v e; rw [h] at this; cases this
  · obtain ⟨m, this⟩ := I.base.tbls a ps e; rw [h] at this; cases this
theorem Inv.still {a : Addr} {l : List (Key × V)} (I : Inv X pins σ H s) (h : H a = some (.dK l)) : ∃ o, Inv X pins σ (upd H a (.frz o (.frz o (.dK l)))) s := by
  have f : Fz (.dK l) := trivial
  obtain ⟨o, ho⟩ := (I.hok a _ h).obj f
  obtain ⟨b1, b2, b3⟩ := base_of I h
  exact ⟨o, Inv.swap I h (fun _ z => nomatch z) (fun _ z => nomatch z) b1 b2 b3 ⟨ho, ho, (I.hok a _ h).anyH f⟩⟩
theorem Inv.again {σ0 : St} {a : Addr} {o : Obj} {l : List (Key × V)} (I0 : Inv X pins σ0 H0 s0) (h0 : H0 a = some (.dK l)) (I : Inv X pins σ H s) (h : H a = some (.frz o (.frz o (.dK l)))) : Inv X pins σ (upd H a (.dK l)) s := by
  have f : Fz (.dK l) := trivial
  obtain ⟨b1, b2, b3⟩ := base_of I0 h0
  exact Inv.swap I h (fun _ z => nomatch z) (fun _ z => nomatch z) b1 b2 b3 ((I.hok a _ h).2.2.anyH f)
end
def tStill (t : TE) : TE := fun σ H Q => ∃ a l, H a = some (.dK l) ∧ ∀ o, t σ (upd H a (.frz o (.frz o (.dK l)))) fun v H' => H' a = some (.frz o (.frz o (.dK l))) ∧ Q v (upd H' a (.dK l))
theorem pe_still {X : Cx} {e : Expr} {t : TE} (h : PE X e t) : PE X e (tStill t) := by
  intro pins s σ H Q I ⟨a, l, ha, q⟩
  obtain ⟨o, I1⟩ := Inv.still I ha
  exact thn (h pins s σ _ _ I1 (q o)) fun v s1 ⟨x, H', I2, r, e, q2⟩ => ⟨x, _, Inv.again I ha I2 e, r, q2⟩
section
variable {K : PySem.W.Frag} {H : Hp} {a : Addr} {o : Obj} {l : List (Key × V)}
theorem Kp.back (h : H a = some (.frz o (.frz o (.dK l)))) : (∀ b xs, H b = some (.tup xs) → upd H a (.dK l) b = some (.tup xs)) ∧ (∀ b ob ys, H b = some (.frz ob (.lst ys)) → upd H a (.dK l) b = some (.frz ob (.lst ys))) ∧ ∀ b ob ys, H b = some (.frz ob (.dK ys)) → upd H a (.dK l) b = some (.frz ob (.dK ys)) := by
  refine ⟨fun b xs e => ?_, fun b ob ys e => ?_, fun b ob ys e => ?_⟩ <;>
  · rw [upd_ne (fun z => by rw [z, h] at e; cases e)]; exact e
theorem SqT.back {b : Addr} {vs : List V} (h : H a = some (.frz o (.frz o (.dK l)))) (r : SqT K H b vs) : SqT K (upd H a (.dK l)) b vs := by
  rcases r with (r | ⟨ob, r⟩) | r
  · exact .inl (.inl ((Kp.back h).1 _ _ r))
  · refine .inl (.inr ⟨ob, ?_⟩)
    rw [upd_ne (fun z => by rw [z, h] at r; cases r)]; exact r
  · exact .inr r
theorem SqF.back {b : Addr} {vs : List V} (h : H a = some (.frz o (.frz o (.dK l)))) (r : SqF K H b vs) : SqF K (upd H a (.dK l)) b vs := by
  rcases r with ⟨ob, r⟩ | r
  · exact .inl ⟨ob, (Kp.back h).2.1 _ _ _ r⟩
  · exact .inr r
mutual
theorem RepD.back (h : H a = some (.frz o (.frz o (.dK l)))) : ∀ {d : PyData} {v : V}, RepD K H d v → RepD K (upd H a (.dK l)) d v
  | .none, v, r => by simp only [RepD] at r ⊢; exact r
  | .bool b, v, r => by simp only [RepD] at r ⊢; exact r
  | .int i, v, r => by simp only [RepD] at r ⊢; exact r
  | .str x, v, r => by simp only [RepD] at r ⊢; exact r
  | .list ds, v, r => by
    simp only [RepD] at r ⊢
    obtain ⟨b, vs, e, q, r⟩ := r
    exact ⟨b, vs, e, SqF.back h q, RepA.back h r⟩
  | .tuple ds, v, r => by
    simp only [RepD] at r ⊢
    obtain ⟨b, vs, e, q, r⟩ := r
    exact ⟨b, vs, e, SqT.back h q, RepA.back h r⟩
  | .dict kvs, v, r => by
    simp only [RepD] at r ⊢
    obtain ⟨b, ob, m, e, q, r⟩ := r
    exact ⟨b, ob, m, e, (Kp.back h).2.2 _ _ _ q, RepK.back h r⟩
theorem RepA.back (h : H a = some (.frz o (.frz o (.dK l)))) : ∀ {ds : List PyData} {vs : List V}, RepA K H ds vs → RepA K (upd H a (.dK l)) ds vs
  | [], vs, r => by simp only [RepA] at r ⊢; exact r
  | d :: ds, vs, r => by
    simp only [RepA] at r ⊢
    obtain ⟨v, q, e, h1, h2⟩ := r
    exact ⟨v, q, e, RepD.back h h1, RepA.back h h2⟩
theorem RepK.back (h : H a = some (.frz o (.frz o (.dK l)))) : ∀ {ds : List (PyData × PyData)} {m : List (Key × V)}, RepK K H ds m → RepK K (upd H a (.dK l)) ds m
  | [], m, r => by simp only [RepK] at r ⊢; exact r
  | (key, d) :: ds, m, r => by
    simp only [RepK] at r ⊢
    obtain ⟨k', v, q, e, ek, h1, h2⟩ := r
    exact ⟨k', v, q, e, ek, RepD.back h h1, RepK.back h h2⟩
end
theorem RepW.back (h : H a = some (.frz o (.frz o (.dK l)))) : ∀ {w : W} {v : V}, RepW K H w v → RepW K (upd H a (.dK l)) w v
  | .d _, _, r => RepD.back h r
  | .m _, _, r => r
  | .t _, _, r => r
theorem MAbs.back {M : MH} {kvs : List (Key × W)} (h : H a = some (.frz o (.frz o (.dK l)))) (m : MAbs K H M) (e : M a = some (.fdic kvs)) : MAbs K (upd H a (.dK l)) (updM M a (.dic kvs)) := fun b mo q => by
  by_cases hb : b = a
  · subst hb
    rw [updM_same] at q
    cases q
    obtain ⟨o', l', e', pr⟩ := m _ _ e
    rw [h] at e'
    cases e'
    exact ⟨l, upd_same, Paired.mapP pr fun p q z => ⟨z.1, RepW.back h z.2⟩⟩
  · rw [updM_ne hb] at q
    have r := m b mo q
    cases mo with
    | lst ws => obtain ⟨vs, e, r⟩ := r; exact ⟨vs, by rw [upd_ne hb]; exact e, Paired.mapP r fun _ _ z => RepW.back h z⟩
    | dic kvs => obtain ⟨l, e, r⟩ := r; exact ⟨l, by rw [upd_ne hb]; exact e, Paired.mapP r fun p q z => ⟨z.1, RepW.back h z.2⟩⟩
    | dct kvs => obtain ⟨l, e, r⟩ := r; exact ⟨l, by rw [upd_ne hb]; exact e, Paired.mapP r fun p q z => ⟨z.1, RepW.back h z.2⟩⟩
    | fdic kvs => obtain ⟨o, l, e, r⟩ := r; exact ⟨o, l, by rw [upd_ne hb]; exact e, Paired.mapP r fun p q z => ⟨z.1, RepW.back h z.2⟩⟩
    | ins C fs => obtain ⟨dx, l, e, r⟩ := r; exact ⟨dx, l, by rw [upd_ne hb]; exact e, Paired.mapP r fun p q z => ⟨z.1, RepW.back h z.2⟩⟩
    | tup ws => obtain ⟨vs, e, r⟩ := r; exact ⟨vs, by rw [upd_ne hb]; exact e, Paired.mapP r fun _ _ z => RepW.back h z⟩
    | flst ws => obtain ⟨o, vs, e, r⟩ := r; exact ⟨o, vs, by rw [upd_ne hb]; exact e, Paired.mapP r fun _ _ z => RepW.back h z⟩
    | exc C fs =>
      obtain ⟨φ, dct, e, p, r⟩ := r
      refine ⟨φ, dct, by rw [upd_ne hb]; exact e, p, ?_⟩
      rcases r with r | ⟨dx, o', l', e1, e2, r⟩
      · exact .inl r
      · exact .inr ⟨dx, o', l', e1, by rw [upd_ne (fun z => by rw [z, h] at e2; cases e2)]; exact e2, Paired.mapP r fun p q z => ⟨z.1, RepW.back h z.2⟩⟩
end
def dStill (t : TD) (τ : DS) (M : MH) (Q : QD) : Prop := ∃ a kvs, M a = some (.dic kvs) ∧ t τ (updM M a (.fdic kvs)) fun v M' => M' a = some (.fdic kvs) ∧ Q v (updM M' a (.dic kvs))
theorem pd_still {X : Cx} {e : Expr} {t : TD} (h : PD X e t) : PD X e (dStill t) := pe_w (pe_still h) fun σ H Q hq63 => by
  obtain ⟨τ, M, Qd, A, ⟨a, kvs, hm, q⟩, k⟩ := hq63
  obtain ⟨l, e, pr⟩ := A.mem _ _ hm
  refine ⟨a, l, e, fun o => ?_⟩
  have kp : Kp H (upd H a (.frz o (.frz o (.dK l)))) := Kp.set e (fun _ z => nomatch z) (fun _ _ z => nomatch z)
  have m1 : MAbs X.K (upd H a (.frz o (.frz o (.dK l)))) (updM M a (.fdic kvs)) := A.mem.put (mo := .fdic kvs) kp ⟨o, l, upd_same, Paired.mapP pr fun p q z => ⟨z.1, z.2.keep kp⟩⟩
  refine ⟨τ, _, _, A.go kp m1, q, fun v H' w M' kp' r' m' hq64 => ?_⟩
  obtain ⟨h1, q1⟩ := hq64
  have e' := kp'.frz a o _ upd_same
  refine ⟨e', k _ _ w _ ⟨fun b xs z => ?_, fun b ob u z => ?_⟩ (RepW.back e' r') (MAbs.back e' m' h1) q1⟩
  · have hb : b ≠ a := fun y => by rw [y, e] at z; cases z
    rw [upd_ne hb]
    exact kp'.tup b xs (by rw [upd_ne hb]; exact z)
  · have hb : b ≠ a := fun y => by rw [y, e] at z; cases z
    rw [upd_ne hb]
    exact kp'.frz b ob u (by rw [upd_ne hb]; exact z)
end D
set_option Elab.async false
set_option linter.all false
set_option maxRecDepth 100000
set_option maxHeartbeats 4000000
namespace D
open PySem PySem.Spec PyProof.Rows L2
section
variable {X : Cx} {pins : List (Addr × Obj)} {σ : St} {H : Hp} {s : Shared}
theorem Inv.trackT {D : Addr} {ys : List V} {us : List Value} {n : Nat} (I : Inv X pins σ H s) (e : s.heap.get? D = some { cls := .type "tuple", data := .seq us.toArray n }) (hn : H D = none) (hv : Vals ys us) (hz : ys.length ≤ sizeLine)
    (h0 : D ∈ X.ex ∨ X.s₀.heap.objs.size ≤ D) (hL : D ≠ X.env.locals) (hc : ∀ x c, X.env.cells.lookup x = some c → c ≠ D) (hp : ∀ p ∈ X.pn ++ pins, p.1 ≠ D) : Inv X pins σ (upd H D (.tup ys)) s := by
  have ne : ∀ b u, H b = some u → b ≠ D := fun b u q => ne_of_none q hn
  refine I.step (h' := s.heap) (g' := s.gens) (d' := s.drawn) (t' := s.toks) (ch := [D]) (fun b hb => ?_) (fun b o _ _ _ q _ => q) (fun b o _ _ _ q _ => ⟨o.slots, q⟩) (fun b o hb q n => ?_) (fun b o _ q => ⟨o, q⟩)
    (fun b xs q => by rw [upd_ne (ne b _ q)]; exact q) (fun b o u q => by rw [upd_ne (ne b _ q)]; exact q) (fun b ps q => ⟨#[], by rw [upd_ne (ne b _ q), q]; simp⟩) (fun m hm => hm) (fun b u q => ?_) I.bare
  · have e : b = D := by simpa using hb
    subst e
    exact ⟨h0, hL, hc, hp⟩
  · rw [upd_ne (fun z => hb (by simp [z]))]; exact n
  · by_cases hb : b = D
    · subst hb
      rw [upd_same] at q
      cases q
      exact ⟨hz, us, hv, ⟨_, e, rfl, n, rfl⟩⟩
    · rw [upd_ne hb] at q
      exact (I.hok b u q).stay (fun _ _ _ q => q) (fun c r => by rw [upd_ne (ne c _ r)]; exact r) fun c xs r => by rw [upd_ne (ne c _ r)]; exact r
end
abbrev stillH (o : Obj) (l : List (Key × V)) : HO := .frz o (.frz o (.dK l))
theorem still_at {P : Program} {w : World} {H : Hp} {h : Heap} {a : Addr} {o : Obj} {l : List (Key × V)} (ok : HOk P w H h) (e : H a = some (stillH o l)) : (a == sysModules) = false ∧ ∃ vs es ep, KV l vs ∧ o.data = .dict es ep ∧ h.DictAt (mixKind P w) a vs ep := by
  obtain ⟨ho, _, z, hd, vs, rel, o', es, ep, h1, h2, h3, h4⟩ := ok a _ e
  rw [ho] at h1
  cases h1
  exact ⟨hd, vs, es, ep, rel, h3, o, es, ho, h2, h3, h4⟩
def Itd (a : Addr) (o : Obj) (l : List (Key × V)) : It :=
  ⟨fun i H => H a = some (stillH o l) ∧ i < l.length, fun i H x H' => ∃ T kv, l[i]? = some kv ∧ H T = none ∧ x = .ref T ∧ H' = upd H T (.tup [kV kv.1, kv.2]), fun i H => H a = some (stillH o l) ∧ l.length ≤ i⟩
theorem kv_at {κ : Type} [DecidableEq κ] {l : List (κ × V)} {vs : List (κ × Value)} (r : KV l vs) {i : Nat} (h : i < l.length) : ∃ kv k v, l[i]? = some kv ∧ vs[i]? = some (k, v) ∧ kv.1 = k ∧ RelV kv.2 v := by
  unfold KV at r
  induction r generalizing i with
  | nil => simp at h
  | @cons p q ps qs hp t ih =>
    cases i with
    | zero => exact ⟨p, q.1, q.2, rfl, rfl, hp.1, hp.2⟩
    | succ i =>
      obtain ⟨kv, k, v, e1, e2, e3, e4⟩ := ih (i := i) (by simpa using h)
      exact ⟨kv, k, v, by simpa using e1, by simpa using e2, e3, e4⟩
theorem kV_rel {P : Program} {w : World} {k : Key} {u : Value} (h : (mixKind P w).is k u = true) : RelV (kV k) u := by
  cases k with
  | inl i =>
    have h' : Value.isInt i u = true := h
    unfold Value.isInt at h'
    split at h'
    · rename_i j t
      have : j = i := by simpa using h'
      subst this
      exact ⟨t, rfl⟩
    · cases h'
  | inr x =>
    have h' : Value.isStrOf x u = true := h
    unfold Value.isStrOf at h'
    split at h'
    · rename_i j t
      have : j = x := by simpa using h'
      subst this
      exact ⟨t, rfl⟩
    · cases h'
theorem turn_ditems {P : Program} {w : World} {K : PySem.W.Frag} {elts : List Expr} {x1 : Nat} {tpos : Pos} (a it : Addr) (o : Obj) (l : List (Key × V)) (es : Array DictEntry) (ep : Nat) (ho : o.data = .dict es ep) :
    Turn P w K (.Tuple elts x1 tpos) (Itd a o l) [it] it (fun i h => ∃ ok ov, IsItemIter h it a i l.length ep ok ov) where
  mem := by simp
  obj := fun i h st b hb => by
    have e : b = it := by simpa using hb
    subst e
    obtain ⟨ok, ov, st⟩ := st
    exact ⟨_, st, fun v z => by cases z⟩
  keep := fun i h h' ⟨ok, ov, st⟩ k => ⟨ok, ov, k it (by simp) _ st⟩
  item := by
    intro X hP hw hK hc i pins s σ H E I hf ⟨ok, ov, st⟩ ⟨hg, hi⟩
    subst hP hw hK
    obtain ⟨f0, f1, f2, f3, f4, f5⟩ := hf it (by simp)
    obtain ⟨hd, vs, es', ep', rel, ho', da⟩ := still_at I.hok hg
    rw [ho] at ho'
    cases ho'
    obtain ⟨kv, k, v, e1, e2, e3, e4⟩ := kv_at rel hi
    have hl : l.length = vs.length := rel.length
    rw [hl] at st
    refine wpAny_pyNext_items_item st da e2 fun key h' hk st' ht hsz kp => ?_
    refine ⟨_, rfl, wpAny_letOwnedTupleGo_items st' fun h'' st'' sb => ?_⟩
    have T := I.fpOk (Nat.le_refl _) (I.hok.fresh (Nat.le_refl _))
    obtain ⟨t0, t1, t2, t3, t4, t5⟩ := T
    have hit : it < s.heap.objs.size := Heap.lt_size st
    have nT : s.heap.objs.size ≠ it := Nat.ne_of_gt hit
    have I1 : Inv X pins σ H { s with heap := h'' } := I.turned (t' := s.toks) (fun b ob hb e => (sb.2 b hb).trans (kp b ob hb e)) f0 f1 f3 f4 f5
    have eT : h''.get? s.heap.objs.size = some { cls := .type "tuple", data := .seq #[key, v] } := (sb.2 _ nT).trans ht
    have I2 := Inv.trackT (us := [key, v]) (ys := [kV kv.1, kv.2]) I1 eT t0 (.cons (by rw [e3]; exact kV_rel hk) (.cons e4 .nil)) (by simp; have := s16; omega) t3 t1 t4 t5
    refine ⟨.ref s.heap.objs.size, _, I2, rfl, ⟨_, kv, e1, t0, rfl, rfl⟩, ⟨_, _, by rw [hl]; exact st''⟩, fun b hb => ?_⟩
    have e : b = it := by simpa using hb
    subst e
    rw [upd_ne nT.symm]
    exact f0
  done := by
    intro X hP hw hK hc i pins s σ H E I hf ⟨ok, ov, st⟩ ⟨hg, hi⟩
    subst hP hw hK
    obtain ⟨f0, f1, f2, f3, f4, f5⟩ := hf it (by simp)
    obtain ⟨hd, vs, es', ep', rel, ho', da⟩ := still_at I.hok hg
    rw [ho] at ho'
    cases ho'
    have hl : l.length = vs.length := rel.length
    rw [hl] at st hi
    exact wpAny_pyNext_items_end (I.ok.hd hc) st da (List.getElem?_eq_none hi) fun h' eb => ⟨rfl, I.turned (t' := s.toks) (fun b o hb e => eb b o hb e) f0 f1 f3 f4 f5⟩
  self := fun _ _ _ _ _ ⟨ok, ov, st⟩ h => PySem.W.kcp_self st h
section
variable {X : Cx} {tg o : Expr} {apos cpos : Pos} {td : TE}
def iDItems (td : TE) : TI := fun σ H R => td σ H fun x H1 => ∃ a o l, x = .ref a ∧ H1 a = some (stillH o l) ∧ R (Itd a o l) H1
theorem pi_ditems {elts : List Expr} {x1 : Nat} {tpos : Pos} (ho : PE X o td) (hbase : attributeBase o "items" X.env (eval o X.env) = eval o X.env := by rfl) (hline : (apos.endLine == cpos.line) = true := by rfl) :
    PI X (.Tuple elts x1 tpos) (.Call (.Attribute o "items" apos) [] [] cpos) (iDItems td) := by
  intro pins s σ H R I h
  refine wpAny_Call_method0_late hbase hline (thn (ho pins s σ H _ I h) fun v s1 hq65 => ?_)
  obtain ⟨x, H1, I1, r1, a, ob, l, ex, hg, q⟩ := hq65
  subst ex
  cases r1
  obtain ⟨hd, vs, es, ep, rel, hdat, da⟩ := still_at I1.hok hg
  have dd : s1.heap.DictOf (mixKind X.prog X.w) a vs := let ⟨o, es, h⟩ := da; ⟨o, es, ep, h⟩
  have hnd : ∀ b, Value.ref a = .ref b → ∃ ob, s1.heap.get? b = some ob ∧ ob.dict = none := fun b e => by
    cases e
    obtain ⟨oo, es', h1, h2, _⟩ := da
    exact ⟨oo, h1, h2.2.1⟩
  refine ⟨"dict", "dict.items", PySem.F.plainAttrs_dict, PySem.F.slot_dict_items, PySem.F.type_dict_items, dd.typeIs, hnd, Calls.callWith_builtin rfl (PySem.evalArgs_none ?_)⟩
  refine call_meetsIn PySem.F.slot_dict_items dd.typeIs PySem.F.entry_dict_items (PySem.F.args_dict_items_1 _) (meets_dict_items (mixKind X.prog X.w) a hd) ⟨⟨vs, dd⟩, ?_⟩
  have I2 : Inv X pins σ H1 { s1 with heap := s1.heap.push { cls := .type "dict_items", data := .fields #[.ref a] } } := I1.kept (t' := s1.toks) fun b o e => Heap.get?_push_of_some _ e
  obtain ⟨_, vs2, es2, ep2, rel2, hdat2, da2⟩ := still_at I2.hok hg
  rw [hdat] at hdat2
  cases hdat2
  refine wpAny_pyIter_items ⟨_, Heap.get?_push_size _ rfl, rfl, rfl⟩ da2 ?_
  refine ⟨_, [_], _, _, H1, rfl, I2.kept (t' := s1.toks) fun b o e => Heap.get?_push_of_some _ e, turn_ditems a _ ob l es ep hdat, ⟨.none, .none, ?_⟩, fun b hb => ?_, q⟩
  · have := Heap.get?_push_size (s1.heap.push { cls := .type "dict_items", data := .fields #[.ref a] }) (o := { cls := .type "dict_itemiterator", data := .fields #[.none, .bool false, .ref a, .int 0 0, .int (vs2.length : Nat) 0, .int (ep : Nat) 0, .none, .none] }) rfl
    rw [rel2.length]
    exact this
  · rw [List.mem_singleton] at hb
    rw [hb]
    exact I2.fpOk (Nat.le_refl _) (I2.hok.fresh (Nat.le_refl _))
end
section
variable {X : Cx} {K : PySem.W.Frag} {tg o : Expr} {apos cpos : Pos} {td : TD}
def pairsW (kds : List (Key × PyData)) : List W := kds.map fun p => .d (.tuple [keyD p.1, p.2])
def dataKV (kds : List (Key × PyData)) : List (Key × W) := kds.map fun p => (p.1, .d p.2)
theorem pr_get {H : Hp} : ∀ {kds : List (Key × PyData)} {l : List (Key × V)}, Paired (fun (p : Key × W) (q : Key × V) => p.1 = q.1 ∧ RepW K H p.2 q.2) (dataKV kds) l → l.length = kds.length ∧ ∀ (i : Nat) kv, l[i]? = some kv → ∃ p, kds[i]? = some p ∧ p.1 = kv.1 ∧ RepD K H p.2 kv.2
  | [], l, h => by
    cases h
    exact ⟨rfl, fun i kv e => by simp at e⟩
  | p :: kds, l, h => by
    cases h with
    | cons r t =>
      obtain ⟨h1, h2⟩ := pr_get t
      refine ⟨by simp [h1], fun i kv e => ?_⟩
      cases i with
      | zero =>
        simp at e
        subst e
        exact ⟨p, rfl, r.1, r.2⟩
      | succ i =>
        obtain ⟨p', e1, e2⟩ := h2 i kv (by simpa using e)
        exact ⟨p', by simpa using e1, e2⟩
def dDItems (td : TD) (τ : DS) (M : MH) (R : List W → MH → Prop) : Prop := td τ M fun w M1 => ∃ a kds, w = .m a ∧ M1 a = some (.fdic (dataKV kds)) ∧ R (pairsW kds) M1
theorem pid_ditems {elts : List Expr} {x1 : Nat} {tpos : Pos} (ho : PD X o td) (hbase : attributeBase o "items" X.env (eval o X.env) = eval o X.env := by rfl) (hline : (apos.endLine == cpos.line) = true := by rfl) :
    PId X (.Tuple elts x1 tpos) (.Call (.Attribute o "items" apos) [] [] cpos) (dDItems td) := pi_w (pi_ditems ho hbase hline) fun σ H R hq66 => by
  obtain ⟨τ, M, Rd, A, h, k⟩ := hq66
  refine ⟨τ, M, _, A, h, fun v H1 w M1 kp r m hq67 => ?_⟩
  obtain ⟨a, kds, ew, hm, q⟩ := hq67
  subst ew
  obtain ⟨ob, l, e, pr⟩ := m _ _ hm
  obtain ⟨hlen, hget⟩ := pr_get pr
  refine ⟨a, ob, l, r, e, k _ H1 _ M1 kp m (fun H2 kp2 i => ?_) q⟩
  have hlw : (pairsW kds).length = l.length := by rw [hlen]; simp [pairsW]
  have e2 := kp2.frz a ob _ e
  refine ⟨fun hi => ⟨e2, by omega⟩, fun hi => ⟨e2, by omega⟩, fun x H' hi hq68 => ?_⟩
  obtain ⟨T, kv, hkv, hT, ex, eH⟩ := hq68
  subst ex eH
  obtain ⟨p, e3, e4, e5⟩ := hget i kv hkv
  have kpn : Kp H2 (upd H2 T (.tup [kV kv.1, kv.2])) := Kp.new hT
  refine ⟨kpn, fun M m => m.new hT, .d (.tuple [keyD p.1, p.2]), by simp [pairsW, e3], ?_⟩
  simp only [RepW, RepD, RepA]
  refine ⟨T, _, rfl, .inl (.inl upd_same), _, _, rfl, ?_, _, _, rfl, (e5.keep kp2).keep kpn, rfl⟩
  rw [e4]
  cases kv.1 <;> simp [keyD, kV, RepD]
end
theorem vals_strs : ∀ {zs : List Str} {its : List Value}, StrsAre its zs → Vals (zs.map V.str) its
  | _, _, .nil => .nil
  | _, _, .cons y t h => .cons ⟨t, rfl⟩ (vals_strs h)
theorem bb_sorted : bootBuiltins "sorted" = some (.builtin "sorted") := by decide +kernel
section
variable {X : Cx} {K : PySem.W.Frag}
theorem reps_strs {H : Hp} : ∀ (zs : List Str), RepWs K H (strsW zs) (zs.map V.str)
  | [] => .nil
  | z :: zs => .cons (by simp [RepW, RepD]) (reps_strs zs)
end
end D
set_option Elab.async false
set_option linter.all false
set_option maxRecDepth 100000
set_option maxHeartbeats 4000000
namespace D
open PySem PySem.Spec PyProof.Rows L2
section
variable {X : Cx} {K : PySem.W.Frag}
end
end D
set_option Elab.async false
set_option linter.all false
set_option maxRecDepth 100000
set_option maxHeartbeats 4000000
namespace D
open PySem PySem.Spec PyProof.Rows L2
namespace Q
section
variable {X : Cx} {pins : List (Addr × Obj)} {σ : St} {H H0 : Hp} {s s0 : Shared}
end
section
variable {K : PySem.W.Frag} {H : Hp} {a : Addr} {o : Obj} {l : List (Key × V)}
end
theorem pd_still {X : Cx} {e : Expr} {t : TD} (h : Jd (PD X e t)) : Jd (PD X e (dStill t)) := ⟨D.pd_still (h := h.h)⟩
section
variable {X : Cx} {pins : List (Addr × Obj)} {σ : St} {H : Hp} {s : Shared}
end
section
variable {X : Cx} {tg o : Expr} {apos cpos : Pos} {td : TE}
end
section
variable {X : Cx} {K : PySem.W.Frag} {tg o : Expr} {apos cpos : Pos} {td : TD}
theorem pid_ditems {elts : List Expr} {x1 : Nat} {tpos : Pos} (ho : Jd (PD X o td)) (hbase : attributeBase o "items" X.env (eval o X.env) = eval o X.env := by rfl) (hline : (apos.endLine == cpos.line) = true := by rfl) : Jd (PId X (.Tuple elts x1 tpos) (.Call (.Attribute o "items" apos) [] [] cpos) (dDItems td)) := ⟨D.pid_ditems (ho := ho.h) (hbase := hbase) (hline := hline)⟩
end
section
variable {X : Cx} {K : PySem.W.Frag}
end
section
variable {X : Cx} {K : PySem.W.Frag}
end
end Q
end D
set_option Elab.async false
set_option linter.all false
set_option maxRecDepth 100000
set_option maxHeartbeats 4000000
namespace D
open PySem PySem.Spec PyProof.Rows L2
section
variable {X : Cx} {pins : List (Addr × Obj)} {σ : St} {H : Hp} {s : Shared} {h' : Heap}
end
section
variable {X : Cx} {a : Expr} {p pos : Pos} {ta : TA}
end
section
variable {X : Cx} {K : PySem.W.Frag} {a : Expr} {p pos : Pos} {t : TAd}
end
section
variable {X : Cx} {K : PySem.W.Frag}
end
end D
set_option Elab.async false
set_option linter.all false
set_option maxRecDepth 100000
set_option maxHeartbeats 4000000
namespace S
open PySem PySem.W PyProof.Rows
def go {α : Type} (lt : Nat → Nat → Bool) : KasT α → α
  | .ret a => a
  | .ask i j k => go lt (k (lt i j))
theorem go_bind {α β : Type} (lt : Nat → Nat → Bool) (f : α → KasT β) : ∀ t : KasT α, go lt (t.bind f) = go lt (f (go lt t))
  | .ret _ => rfl
  | .ask i j k => go_bind lt f (k (lt i j))
structure Weak (lt : Nat → Nat → Bool) : Prop where
  asym : ∀ a b, lt a b = true → lt b a = false
  tr : ∀ a b c, lt b a = false → lt c b = false → lt c a = false
section
variable {lt : Nat → Nat → Bool}
theorem Weak.irr (h : Weak lt) (a : Nat) : lt a a = false := by
  cases e : lt a a with
  | false => rfl
  | true => have := h.asym a a e; rw [e] at this; cases this
theorem Weak.ltle (h : Weak lt) {a b c : Nat} (h1 : lt a b = true) (h2 : lt c b = false) : lt a c = true := by
  cases e : lt a c with
  | true => rfl
  | false =>
    have := h.tr b c a h2 e
    rw [h1] at this
    cases this
theorem Weak.lelt (h : Weak lt) {a b c : Nat} (h1 : lt b a = false) (h2 : lt b c = true) : lt a c = true := by
  cases e : lt a c with
  | true => rfl
  | false =>
    have := h.tr c a b e h1
    rw [h2] at this
    cases this
def B (lt : Nat → Nat → Bool) (a b : Nat) : Prop := lt a b = true ∨ (lt a b = false ∧ lt b a = false ∧ a < b)
theorem B.of_le {a b : Nat} (h : lt b a = false) (h2 : a < b) : B lt a b := by
  cases e : lt a b with
  | true => exact .inl e
  | false => exact .inr ⟨e, h, h2⟩
theorem B.le (h : Weak lt) {a b : Nat} (q : B lt a b) : lt b a = false := by
  rcases q with q | q
  · exact h.asym _ _ q
  · exact q.2.1
theorem B.tr (h : Weak lt) {a b c : Nat} (q : B lt a b) (r : B lt b c) : B lt a c := by
  rcases q with q | ⟨q1, q2, q3⟩
  · rcases r with r | ⟨r1, r2, r3⟩
    · exact .inl (h.ltle q (h.asym _ _ r))
    · exact .inl (h.ltle q r2)
  · rcases r with r | ⟨r1, r2, r3⟩
    · exact .inl (h.lelt q2 r)
    · exact .inr ⟨h.tr _ _ _ r1 q1, h.tr _ _ _ q2 r2, by omega⟩
abbrev g (p : Array Nat) (i : Nat) : Nat := p.getD i 0
theorem g_eq (p : Array Nat) (i : Nat) : g p i = (p[i]?).getD 0 := by simp [g]
theorem g_rev {p : Array Nat} {i j : Nat} (hj : j ≤ p.size) (k : Nat) : g (kas_rev p i j) k = if i ≤ k ∧ k < j then g p (i + j - 1 - k) else g p k := by
  rw [g_eq, g_eq, g_eq]
  unfold kas_rev
  rw [getElem?_mirror_all hj k]
  split <;> rfl
theorem g_bub {p : Array Nat} {k d : Nat} (hk : k < p.size) (hd : d ≤ k) (i : Nat) : g (bubble p k d) i = if i = k - d then g p k else if k - d < i ∧ i ≤ k then g p (i - 1) else g p i := by
  rw [g_eq, g_eq, g_eq, g_eq, getElem?_bubble hk d hd i]
  split
  · rfl
  · split <;> rfl
structure Un (p : Array Nat) (N n : Nat) : Prop where
  size : p.size = N
  lo : ∀ i, i < n → g p i < n
  hi : ∀ i, n ≤ i → i < N → g p i = i
theorem Un.rev {p : Array Nat} {N n i j : Nat} (u : Un p N n) (hj : j ≤ n) (hn : n ≤ N) : Un (kas_rev p i j) N n := by
  have hs := u.size
  refine ⟨(mirror_size _ _ _ _).trans u.size, fun k hk => ?_, fun k hk hk2 => ?_⟩
  · rw [g_rev (by omega)]
    split
    · exact u.lo _ (by omega)
    · exact u.lo _ hk
  · rw [g_rev (by omega), if_neg (by omega)]
    exact u.hi k hk hk2
theorem Un.up {p : Array Nat} {N n m : Nat} (u : Un p N n) (h : n ≤ m) (hm : m ≤ N) : Un p N m := by
  refine ⟨u.size, fun k hk => ?_, fun k hk hk2 => u.hi k (by omega) hk2⟩
  by_cases z : k < n
  · have := u.lo k z; omega
  · have := u.hi k (by omega) (by omega)
    omega
theorem perm_rev {p : Array Nat} {i j : Nat} {l : List Nat} (h : p.toList.Perm l) : (kas_rev p i j).toList.Perm l := (Array.perm_iff_toList_perm.mp (mirror_perm p i j _)).trans h
def Up (lt : Nat → Nat → Bool) (p : Array Nat) (n : Nat) : Prop := ∀ i j, i < j → j < n → B lt (g p i) (g p j)
def Dn (lt : Nat → Nat → Bool) (p : Array Nat) (n : Nat) : Prop := ∀ i j, i < j → j < n → B lt (g p j) (g p i)
theorem Up.succ (h : Weak lt) {p : Array Nat} {n : Nat} (u : Up lt p n) (q : 0 < n → B lt (g p (n - 1)) (g p n)) : Up lt p (n + 1) := by
  intro i j hij hj
  by_cases e : j < n
  · exact u i j hij e
  · have e : j = n := by omega
    subst e
    have q := q (by omega)
    by_cases z : i = j - 1
    · rw [z]; exact q
    · exact (u i (j - 1) (by omega) (by omega)).tr h q
theorem asc_ok (h : Weak lt) {p : Array Nat} {N : Nat} : ∀ (f n : Nat), n + f ≤ N → 1 ≤ n → Un p N n → Up lt p n →
    n ≤ go lt (kas_asc p f n) ∧ go lt (kas_asc p f n) ≤ n + f ∧ Un p N (go lt (kas_asc p f n)) ∧ Up lt p (go lt (kas_asc p f n)) ∧ (go lt (kas_asc p f n) < n + f → lt (g p (go lt (kas_asc p f n))) (g p (go lt (kas_asc p f n) - 1)) = true)
  | 0, n, hf, h1, u, q => ⟨Nat.le_refl _, Nat.le_refl _, u, q, fun z => absurd z (Nat.lt_irrefl _)⟩
  | f + 1, n, hf, h1, u, q => by
    simp only [kas_asc, go]
    cases e : lt (p.getD n 0) (p.getD (n - 1) 0) with
    | true => exact ⟨Nat.le_refl _, by simp [go], u, q, fun _ => e⟩
    | false =>
      have hb : B lt (g p (n - 1)) (g p n) := B.of_le e (by have := u.lo (n - 1) (by omega); have := u.hi n (Nat.le_refl _) (by omega); omega)
      have r := asc_ok h (p := p) (N := N) f (n + 1) (by omega) (by omega) (u.up (by omega) (by omega)) (q.succ h fun _ => hb)
      simp only [Bool.false_eq_true, if_false]
      have e2 : n + 1 + f = n + (f + 1) := by omega
      rw [e2] at r
      exact ⟨by have := r.1; omega, r.2⟩
structure Fall (lt : Nat → Nat → Bool) (p : Array Nat) (n q : Nat) : Prop where
  q1 : q + 1 ≤ n
  dn : ∀ i j, i < j → j < n - 1 - q → B lt (g p j) (g p i)
  cr : ∀ i j, i < n - 1 - q → n - 1 - q ≤ j → j < n → lt (g p j) (g p i) = true
  bl : ∀ i j, n - 1 - q ≤ i → i < j → j < n → B lt (g p i) (g p j) ∧ lt (g p i) (g p j) = false
theorem Fall.dnAll {p : Array Nat} {n : Nat} (x : Fall lt p n 0) : Dn lt p n := fun i j hij hj => by
  have := x.q1
  by_cases e : j < n - 1 - 0
  · exact x.dn i j hij e
  · exact .inl (x.cr i j (by omega) (by omega) hj)
theorem Fall.rev {p : Array Nat} {n q N : Nat} (x : Fall lt p n q) (hN : n ≤ p.size) : Dn lt (kas_rev p (n - (q + 1)) n) n := fun i j hij hj => by
  have := x.q1
  rw [g_rev hN, g_rev hN]
  by_cases e1 : n - (q + 1) ≤ i ∧ i < n
  · rw [if_pos e1, if_pos ⟨by omega, hj⟩]
    exact (x.bl _ _ (by omega) (by omega) (by omega)).1
  · rw [if_neg e1]
    by_cases e2 : n - (q + 1) ≤ j ∧ j < n
    · rw [if_pos e2]
      exact .inl (x.cr _ _ (by omega) (by omega) (by omega))
    · rw [if_neg e2]
      exact x.dn i j hij (by omega)
theorem Dn.fall (h : Weak lt) {p : Array Nat} {n : Nat} (h1 : 1 ≤ n) (x : Dn lt p n) (q : lt (g p n) (g p (n - 1)) = true) : Fall lt p (n + 1) 0 := by
  refine ⟨by omega, fun i j hij hj => x i j hij (by omega), fun i j hi hj hj2 => ?_, fun i j hi hij hj => by omega⟩
  have e : j = n := by omega
  subst e
  by_cases z : i = j - 1
  · rw [z]; exact q
  · exact h.ltle q ((x i (j - 1) (by omega) (by omega)).le h)
theorem desc_ok (h : Weak lt) {N : Nat} : ∀ (f : Nat) (p : Array Nat) (n q : Nat), n + f ≤ N → Un p N n → p.toList.Perm (List.range N) → Fall lt p n q →
    n ≤ (go lt (kas_desc f p n q)).2.1 ∧ (go lt (kas_desc f p n q)).2.1 ≤ n + f ∧ Un (go lt (kas_desc f p n q)).1 N (go lt (kas_desc f p n q)).2.1 ∧ (go lt (kas_desc f p n q)).1.toList.Perm (List.range N) ∧ Fall lt (go lt (kas_desc f p n q)).1 (go lt (kas_desc f p n q)).2.1 (go lt (kas_desc f p n q)).2.2
  | 0, p, n, q, hf, u, hp, x => ⟨Nat.le_refl _, Nat.le_refl _, u, hp, x⟩
  | f + 1, p, n, q, hf, u, hp, x => by
    have hs := u.size
    have hq1 := x.q1
    simp only [kas_desc, go]
    cases e : lt (p.getD n 0) (p.getD (n - 1) 0) with
    | true =>
      simp only [if_true]
      by_cases hq : q > 0
      · rw [if_pos hq]
        have e2 : lt (g (kas_rev p (n - (q + 1)) n) n) (g (kas_rev p (n - (q + 1)) n) (n - 1)) = true := by
          rw [g_rev (by omega), g_rev (by omega), if_neg (by omega), if_pos (by omega)]
          by_cases z : n - (q + 1) + n - 1 - (n - 1) = n - 1
          · rw [z]; exact e
          · exact h.ltle e (x.bl _ (n - 1) (by omega) (by omega) (by omega)).2
        have r := desc_ok h f (kas_rev p (n - (q + 1)) n) (n + 1) 0 (by omega) ((u.rev (Nat.le_refl _) (by omega)).up (by omega) (by omega)) (perm_rev hp) ((x.rev (N := N) (by omega)).fall h (by omega) e2)
        exact ⟨by have := r.1; omega, by have := r.2.1; omega, r.2.2⟩
      · rw [if_neg hq]
        have eq0 : q = 0 := by omega
        subst eq0
        have r := desc_ok h f p (n + 1) 0 (by omega) (u.up (by omega) (by omega)) hp (x.dnAll.fall h (by omega) e)
        exact ⟨by have := r.1; omega, by have := r.2.1; omega, r.2.2⟩
    | false =>
      simp only [Bool.false_eq_true, if_false, go]
      cases e2 : lt (p.getD (n - 1) 0) (p.getD n 0) with
      | true => exact ⟨Nat.le_refl _, by simp [go], u, hp, x⟩
      | false =>
        simp only [Bool.false_eq_true, if_false]
        have lo := u.lo
        have hin := u.hi n (Nat.le_refl _) (by omega)
        have r := desc_ok h f p (n + 1) (q + 1) (by omega) (u.up (by omega) (by omega)) hp ⟨by omega, fun i j hij hj => x.dn i j hij (by omega), fun i j hi hj hj2 => ?_, fun i j hi hij hj => ?_⟩
        · exact ⟨by have := r.1; omega, by have := r.2.1; omega, r.2.2⟩
        · by_cases z : j < n
          · exact x.cr i j (by omega) (by omega) z
          · have z : j = n := by omega
            subst z
            exact h.lelt e2 (x.cr i (j - 1) (by omega) (by omega) (by omega))
        · by_cases z : j < n
          · exact x.bl i j (by omega) hij z
          · have z : j = n := by omega
            subst z
            have le1 : lt (g p j) (g p i) = false := by
              by_cases y : i = j - 1
              · rw [y]; exact e
              · exact h.tr _ _ _ ((x.bl i (j - 1) (by omega) (by omega) (by omega)).1.le h) e
            have le2 : lt (g p i) (g p j) = false := by
              by_cases y : i = j - 1
              · rw [y]; exact e2
              · exact h.tr _ _ _ e2 (x.bl i (j - 1) (by omega) (by omega) (by omega)).2
            exact ⟨B.of_le le1 (by have := lo i (by omega); omega), le2⟩
theorem Dn.up {p : Array Nat} {n : Nat} (x : Dn lt p n) (hN : n ≤ p.size) : Up lt (kas_rev p 0 n) n := fun i j hij hj => by
  rw [g_rev hN, g_rev hN, if_pos (by omega), if_pos (by omega)]
  exact x _ _ (by omega) (by omega)
def Cnt (lt : Nat → Nat → Bool) (N : Nat) (r : Nat × Array Nat) : Prop := 1 ≤ r.1 ∧ r.1 ≤ N ∧ Un r.2 N r.1 ∧ r.2.toList.Perm (List.range N) ∧ Up lt r.2 r.1
theorem tail3_ok (h : Weak lt) {N n : Nat} {p : Array Nat} (h1 : 1 ≤ n) (hn : n ≤ N) (u : Un p N n) (hp : p.toList.Perm (List.range N)) (x : Dn lt p n) : Cnt lt N (go lt (kas_tail3 n N p)) := by
  unfold kas_tail3
  rw [go_bind]
  have hs := u.size
  have r := asc_ok h (p := kas_rev p 0 n) (N := N) (N - n) n (by omega) h1 (u.rev (Nat.le_refl _) hn) (x.up (by omega))
  exact ⟨by have := r.1; show 1 ≤ go lt (kas_asc (kas_rev p 0 n) (N - n) n); omega, by have := r.2.1; show go lt (kas_asc (kas_rev p 0 n) (N - n) n) ≤ N; omega, r.2.2.1, perm_rev hp, r.2.2.2.1⟩
theorem descPart_ok (h : Weak lt) {N n : Nat} {p : Array Nat} (hn : n + 1 ≤ N) (u : Un p N (n + 1)) (hp : p.toList.Perm (List.range N)) (x : Fall lt p (n + 1) 0) : Cnt lt N (go lt (kas_descPart n N p)) := by
  unfold kas_descPart
  rw [go_bind]
  obtain ⟨r1, r2, r3, r4, r5⟩ := desc_ok h (N := N) (N - (n + 1)) p (n + 1) 0 (by omega) u hp x
  have hs := r3.size
  by_cases hq : (go lt (kas_desc (N - (n + 1)) p (n + 1) 0)).2.2 > 0
  · rw [if_pos hq]
    exact tail3_ok h (by omega) (by omega) (r3.rev (Nat.le_refl _) (by omega)) (perm_rev r4) (r5.rev (N := N) (by omega))
  · rw [if_neg hq]
    have e : (go lt (kas_desc (N - (n + 1)) p (n + 1) 0)).2.2 = 0 := by omega
    rw [e] at r5
    exact tail3_ok h (by omega) (by omega) r3 r4 r5.dnAll
theorem count_ok (h : Weak lt) {N : Nat} (hN : 1 ≤ N) {p : Array Nat} (u : Un p N 1) (hp : p.toList.Perm (List.range N)) : Cnt lt N (go lt (kas_count N p)) := by
  unfold kas_count
  rw [go_bind]
  obtain ⟨a1, a2, a3, a4, a5⟩ := asc_ok h (p := p) (N := N) (N - 1) 1 (by omega) (Nat.le_refl _) u (fun i j hij hj => by omega)
  generalize go lt (kas_asc p (N - 1) 1) = n at a1 a2 a3 a4 a5
  have hs := u.size
  by_cases e : (n == N) = true
  · rw [if_pos e]
    exact ⟨a1, by show n ≤ N; omega, a3, hp, a4⟩
  · rw [if_neg e]
    have ne : n ≠ N := fun z => e (by simp [z])
    have last := a5 (by omega)
    by_cases h2 : n > 1
    · rw [if_pos h2]
      simp only [go]
      cases c : lt (p.getD 0 0) (p.getD (n - 1) 0) with
      | true =>
        simp only [if_true, go]
        exact ⟨a1, by show n ≤ N; omega, a3, hp, a4⟩
      | false =>
        simp only [Bool.false_eq_true, if_false]
        have eqv : ∀ i j, i < j → j < n → lt (g p i) (g p j) = false := fun i j hij hj => by
          have t1 : lt (g p i) (g p 0) = false := by
            by_cases z : i = 0
            · rw [z]; exact h.irr _
            · exact (a4 0 i (by omega) (by omega)).le h
          have t2 : lt (g p (n - 1)) (g p j) = false := by
            by_cases z : j = n - 1
            · rw [z]; exact h.irr _
            · exact (a4 j (n - 1) (by omega) (by omega)).le h
          have t3 : lt (g p 0) (g p j) = false := by
            cases y : lt (g p 0) (g p j) with
            | false => rfl
            | true => have := h.ltle y t2; rw [c] at this; cases this
          cases y : lt (g p i) (g p j) with
          | false => rfl
          | true => have := h.lelt t1 y; rw [t3] at this; cases this
        have fa : Fall lt p n (n - 1) := ⟨by omega, fun i j hij hj => by omega, fun i j hi hj hj2 => by omega, fun i j hi hij hj => ⟨a4 i j hij hj, eqv i j hij hj⟩⟩
        have dn : Dn lt (kas_rev p 0 n) n := by
          have := fa.rev (N := N) (by omega)
          rwa [show n - (n - 1 + 1) = 0 by omega] at this
        have e2 : lt (g (kas_rev p 0 n) n) (g (kas_rev p 0 n) (n - 1)) = true := by
          rw [g_rev (by omega), g_rev (by omega), if_neg (by omega), if_pos (by omega)]
          rw [show 0 + n - 1 - (n - 1) = 0 by omega]
          exact h.ltle last c
        exact descPart_ok h (by omega) ((a3.rev (Nat.le_refl _) (by omega)).up (by omega) (by omega)) (perm_rev hp) (dn.fall h a1 e2)
    · rw [if_neg h2]
      have e1 : n = 1 := by omega
      subst e1
      exact descPart_ok h (by omega) (a3.up (by omega) (by omega)) hp (Dn.fall h (Nat.le_refl _) (fun i j hij hj => by omega) last)
theorem place_ok (h : Weak lt) {p : Array Nat} {k : Nat} (u : Up lt p k) : ∀ (f l r : Nat), r - l ≤ f → l ≤ r → r ≤ k → (∀ i, i < l → lt (g p k) (g p i) = false) → (∀ i, r ≤ i → i < k → lt (g p k) (g p i) = true) →
    go lt (kas_place p k f l r) ≤ k ∧ (∀ i, i < go lt (kas_place p k f l r) → lt (g p k) (g p i) = false) ∧ ∀ i, go lt (kas_place p k f l r) ≤ i → i < k → lt (g p k) (g p i) = true
  | 0, l, r, hf, hl, hr, a, b => ⟨by show l ≤ k; omega, a, fun i hi hk => b i (by have : l ≤ i := hi; omega) hk⟩
  | f + 1, l, r, hf, hl, hr, a, b => by
    simp only [kas_place]
    by_cases e : l ≥ r
    · rw [if_pos e]
      exact ⟨by show l ≤ k; omega, a, fun i hi hk => b i (by have : l ≤ i := hi; omega) hk⟩
    · rw [if_neg e]
      simp only [go]
      cases c : lt (p.getD k 0) (p.getD ((l + r) / 2) 0) with
      | true =>
        simp only [if_true]
        refine place_ok h u f l ((l + r) / 2) (by omega) (by omega) (by omega) a fun i hi hk => ?_
        by_cases z : i = (l + r) / 2
        · rw [z]; exact c
        · exact h.ltle c ((u ((l + r) / 2) i (by omega) hk).le h)
      | false =>
        simp only [Bool.false_eq_true, if_false]
        refine place_ok h u f ((l + r) / 2 + 1) r (by omega) (by omega) hr (fun i hi => ?_) b
        by_cases z : i = (l + r) / 2
        · rw [z]; exact c
        · exact h.tr _ _ _ ((u i ((l + r) / 2) (by omega) (by omega)).le h) c
theorem bin_ok (h : Weak lt) {N : Nat} : ∀ (f : Nat) (p : Array Nat) (k : Nat), k + f ≤ N → Un p N k → p.toList.Perm (List.range N) → Up lt p k → (go lt (kas_bin f p k)).toList.Perm (List.range N) ∧ Up lt (go lt (kas_bin f p k)) (k + f)
  | 0, p, k, hf, u, hp, x => ⟨hp, x⟩
  | f + 1, p, k, hf, u, hp, x => by
    simp only [kas_bin]
    rw [go_bind]
    obtain ⟨h1, h2, h3⟩ := place_ok h x k 0 k (by omega) (by omega) (Nat.le_refl _) (fun i hi => by omega) (fun i hi hk => by omega)
    generalize go lt (kas_place p k k 0 k) = l at h1 h2 h3
    have hs := u.size
    have ek : k - (k - l) = l := by omega
    have lo := u.lo
    have hk := u.hi k (Nat.le_refl _) (by omega)
    have G : ∀ i, g (bubble p k (k - l)) i = if i = l then g p k else if l < i ∧ i ≤ k then g p (i - 1) else g p i := fun i => by
      rw [g_bub (by omega) (by omega), ek]
    have r := bin_ok h (N := N) f (bubble p k (k - l)) (k + 1) (by omega) ⟨(bubble_size _ _ _).trans hs, fun i hi => ?_, fun i hi hi2 => ?_⟩ ((Array.perm_iff_toList_perm.mp (bubble_perm p k _)).trans hp) fun i j hij hj => ?_
    · rw [show k + 1 + f = k + (f + 1) by omega] at r
      exact r
    · rw [G]
      split
      · omega
      · split
        · have := lo (i - 1) (by omega); omega
        · have := lo i (by omega); omega
    · rw [G, if_neg (by omega), if_neg (by omega)]
      exact u.hi i (by omega) hi2
    · have bk : ∀ i, i < l → B lt (g p i) (g p k) := fun i hi => B.of_le (h2 i hi) (by have := lo i (by omega); omega)
      rw [G, G]
      by_cases i1 : i = l
      · rw [if_pos i1, if_neg (by omega), if_pos (by omega)]
        exact .inl (h3 _ (by omega) (by omega))
      · rw [if_neg i1]
        by_cases i2 : l < i ∧ i ≤ k
        · rw [if_pos i2, if_neg (by omega), if_pos (by omega)]
          exact x _ _ (by omega) (by omega)
        · rw [if_neg i2]
          by_cases j1 : j = l
          · rw [if_pos j1]; exact bk i (by omega)
          · rw [if_neg j1]
            by_cases j2 : l < j ∧ j ≤ k
            · rw [if_pos j2]
              exact x _ _ (by omega) (by omega)
            · rw [if_neg j2]
              exact x _ _ hij (by omega)
theorem sort_ok (h : Weak lt) {N : Nat} (hN : 1 ≤ N) : (go lt (kas_sort N)).toList.Perm (List.range N) ∧ Up lt (go lt (kas_sort N)) N := by
  unfold kas_sort
  rw [go_bind]
  have e : ∀ i, i < N → g (List.toArray (List.range N)) i = i := fun i hi => by rw [g_eq]; simp [hi]
  obtain ⟨c1, c2, c3, c4, c5⟩ := count_ok h hN (p := List.toArray (List.range N)) ⟨by simp, fun i hi => by rw [e i (by omega)]; exact hi, fun i _ hi => e i hi⟩ (by simp)
  generalize go lt (kas_count N (List.toArray (List.range N))) = r at c1 c2 c3 c4 c5
  by_cases z : r.1 < N
  · rw [if_pos z]
    have em : max r.1 1 = r.1 := by omega
    rw [em]
    have b := bin_ok h (N - r.1) r.2 r.1 (by omega) c3 c4 c5
    rw [show r.1 + (N - r.1) = N by omega] at b
    exact b
  · rw [if_neg z]
    have em : r.1 = N := by omega
    rw [em] at c5
    exact ⟨c4, c5⟩
end
end S
set_option Elab.async false
set_option linter.all false
set_option maxRecDepth 100000
set_option maxHeartbeats 4000000
namespace S
open PySem PySem.W PyProof.Rows
def Asks {α : Type} (N : Nat) (R : α → Prop) : KasT α → Prop
  | .ret a => R a
  | .ask i j k => i < N ∧ j < N ∧ ∀ b, Asks N R (k b)
theorem Asks.bind {α β : Type} {N : Nat} {R : α → Prop} {R' : β → Prop} {f : α → KasT β} (hf : ∀ a, R a → Asks N R' (f a)) : ∀ {t : KasT α}, Asks N R t → Asks N R' (t.bind f)
  | .ret a, h => hf a h
  | .ask i j k, h => ⟨h.1, h.2.1, fun b => Asks.bind hf (h.2.2 b)⟩
theorem go_wp' {α : Type} {N : Nat} {lt : Nat → Nat → Bool} {R : α → Prop} {cmp : Nat → Nat → (Bool → Shared → Prop) → Shared → Prop} {s : Shared} (hc : ∀ i j, i < N → j < N → ∀ (C : Bool → Shared → Prop), C (lt i j) s → cmp i j C s) {Q : α → Shared → Prop} :
    ∀ t : KasT α, Asks N R t → Q (go lt t) s → t.kasWp cmp Q s
  | .ret _, _, h => h
  | .ask i j k, a, h => hc i j a.1 a.2.1 _ (go_wp' hc (k (lt i j)) (a.2.2 _) h)
def Low (N : Nat) (p : Array Nat) : Prop := ∀ i, g p i < N
theorem Low.of {N : Nat} {p : Array Nat} (hN : 1 ≤ N) (h : ∀ x ∈ p.toList, x < N) : Low N p := fun i => by
  rw [g_eq]
  cases e : p[i]? with
  | none => simp; omega
  | some x => exact h x (by rw [Array.mem_toList_iff]; exact Array.mem_of_getElem? e)
theorem Low.mem {N : Nat} {p : Array Nat} (h : Low N p) : ∀ x ∈ p.toList, x < N := fun x hx => by
  rw [Array.mem_toList_iff] at hx
  obtain ⟨i, hi, e⟩ := Array.mem_iff_getElem.mp hx
  have := h i
  rw [g_eq] at this
  simp [hi] at this
  omega
theorem Low.perm {N : Nat} {p q : Array Nat} (hN : 1 ≤ N) (h : Low N p) (e : q.Perm p) : Low N q := .of hN fun x hx => h.mem x ((Array.perm_iff_toList_perm.mp e).mem_iff.mp hx)
theorem Low.rev {N i j : Nat} {p : Array Nat} (hN : 1 ≤ N) (h : Low N p) : Low N (kas_rev p i j) := h.perm hN (mirror_perm _ _ _ _)
section
variable {N : Nat}
theorem asc_asks {p : Array Nat} (h : Low N p) : ∀ f n, Asks N (fun _ => True) (kas_asc p f n)
  | 0, _ => trivial
  | f + 1, n => ⟨h _, h _, fun b => by
    cases b with
    | true => exact trivial
    | false => exact asc_asks h f (n + 1)⟩
theorem desc_asks (hN : 1 ≤ N) : ∀ (f : Nat) {p : Array Nat} (n q : Nat), Low N p → Asks N (fun r => Low N r.1) (kas_desc f p n q)
  | 0, p, n, q, h => h
  | f + 1, p, n, q, h => ⟨h _, h _, fun b => by
    cases b with
    | true =>
      simp only [if_true]
      split
      · exact desc_asks hN f (n + 1) 0 (h.rev hN)
      · exact desc_asks hN f (n + 1) 0 h
    | false =>
      simp only [Bool.false_eq_true, if_false]
      refine ⟨h _, h _, fun b => ?_⟩
      cases b with
      | true => exact h
      | false => exact desc_asks hN f (n + 1) (q + 1) h⟩
theorem tail3_asks (hN : 1 ≤ N) {p : Array Nat} {n m : Nat} (h : Low N p) : Asks N (fun (r : Nat × Array Nat) => Low N r.2) (kas_tail3 n m p) := by
  unfold kas_tail3
  refine Asks.bind (fun k _ => ?_) (asc_asks (h.rev hN) _ _)
  exact (h.rev hN : Low N (kas_rev p 0 n))
theorem descPart_asks (hN : 1 ≤ N) {p : Array Nat} {n m : Nat} (h : Low N p) : Asks N (fun r => Low N r.2) (kas_descPart n m p) := (desc_asks hN _ _ _ h).bind fun r hr => by
  split
  · exact tail3_asks hN (hr.rev hN)
  · exact tail3_asks hN hr
theorem count_asks (hN : 1 ≤ N) {p : Array Nat} {m : Nat} (h : Low N p) : Asks N (fun r => Low N r.2) (kas_count m p) := (asc_asks h _ _).bind fun n _ => by
  split
  · exact h
  · split
    · refine ⟨h _, h _, fun b => ?_⟩
      cases b with
      | true => exact h
      | false => exact descPart_asks hN (h.rev hN)
    · exact descPart_asks hN h
theorem place_asks {p : Array Nat} {k : Nat} (h : Low N p) : ∀ f l r, Asks N (fun _ => True) (kas_place p k f l r)
  | 0, _, _ => trivial
  | f + 1, l, r => by
    simp only [kas_place]
    split
    · exact trivial
    · refine ⟨h _, h _, fun b => ?_⟩
      cases b with
      | true => exact place_asks h f _ _
      | false => exact place_asks h f _ _
theorem bin_asks (hN : 1 ≤ N) : ∀ (f : Nat) {p : Array Nat} (k : Nat), Low N p → Asks N (fun _ => True) (kas_bin f p k)
  | 0, _, _, _ => trivial
  | f + 1, p, k, h => (place_asks h _ _ _).bind fun l _ => bin_asks hN f (k + 1) (h.perm hN (bubble_perm _ _ _))
theorem sort_asks (hN : 1 ≤ N) : Asks N (fun _ => True) (kas_sort N) := (count_asks hN (.of hN fun x hx => by simpa using hx)).bind fun r hr => by
  split
  · exact bin_asks hN _ _ hr
  · exact trivial
end
def outOf (lt : Nat → Nat → Bool) (n : Nat) : List Nat := if n < 2 then List.range n else (go lt (kas_sort n)).toList
theorem outOf_ok {lt : Nat → Nat → Bool} (h : Weak lt) (n : Nat) : (outOf lt n).Perm (List.range n) ∧ (outOf lt n).Pairwise (B lt) := by
  unfold outOf
  by_cases z : n < 2
  · rw [if_pos z]
    refine ⟨List.Perm.refl _, ?_⟩
    match n, z with
    | 0, _ => exact List.Pairwise.nil
    | 1, _ => exact List.pairwise_singleton _ _
  · rw [if_neg z]
    obtain ⟨a, b⟩ := sort_ok h (N := n) (by omega)
    refine ⟨a, ?_⟩
    rw [List.pairwise_iff_getElem]
    intro i j hi hj hij
    have hl := a.length_eq
    rw [List.length_range] at hl
    have r := b i j hij (by omega)
    rw [g_eq, g_eq] at r
    have hi' : i < (go lt (kas_sort n)).size := by simpa using hi
    have hj' : j < (go lt (kas_sort n)).size := by simpa using hj
    simpa [hi', hj'] using r
section
variable {prog : Program} {w : World} {A : Around} {E : Value → Shared → Prop} {s : Shared}
def midHeap (h : Heap) (a : Addr) (vs : List Value) : Heap := ((h.update a (Obj.mapSeq fun _ => #[])).push (seqObj "tuple" vs.toArray 0)).push (seqObj "list" #[] 0)
def inHeap (h : Heap) (vs : List Value) : Heap := ((h.push (seqObj "list" #[] 0)).update h.objs.size (Obj.mapSeq (· ++ vs.toArray))).push (seqObj "list" vs.toArray 0)
theorem inHeap_old {h : Heap} {vs : List Value} {b : Addr} {o : Obj} (hb : h.get? b = some o) : (inHeap h vs).get? b = some o := by
  have q : b < h.objs.size := Heap.lt_size hb
  have q1 := Nat.ne_of_lt q
  have q2 := Nat.ne_of_lt (Nat.lt_succ_of_lt q)
  unfold inHeap
  rw [Heap.get?_push_ne _ _ _ (by rw [Heap.size_update, size_push']; exact q2), Heap.get?_update_ne _ _ _ _ q1, Heap.get?_push_ne _ _ _ q1]; exact hb
theorem inHeap_size {h : Heap} {vs : List Value} : ((h.push (seqObj "list" #[] 0)).update h.objs.size (Obj.mapSeq (· ++ vs.toArray))).objs.size = h.objs.size + 1 := by rw [Heap.size_update, size_push']
theorem midHeap_old {h : Heap} {a : Addr} {vs : List Value} {b : Addr} {o : Obj} (hb : h.get? b = some o) (hne : b ≠ a) : (midHeap h a vs).get? b = some o := by
  have q : b < h.objs.size := Heap.lt_size hb
  have q1 := Nat.ne_of_lt q
  have q2 := Nat.ne_of_lt (Nat.lt_succ_of_lt q)
  unfold midHeap
  rw [Heap.get?_push_ne _ _ _ (by rw [size_push', Heap.size_update]; exact q2), Heap.get?_push_ne _ _ _ (by rw [Heap.size_update]; exact q1), Heap.get?_update_ne _ _ _ _ hne]; exact hb
theorem midHeap_at {h : Heap} {a : Addr} {vs us : List Value} {n : Nat} (ho : h.get? a = some (seqObj "list" us.toArray n)) : ∃ e, (h.update a (Obj.mapSeq fun _ => (#[] : Array Value))).get? a = some (seqObj "list" #[] e) ∧ (midHeap h a vs).get? a = some (seqObj "list" #[] e) := by
  have q : a < h.objs.size := Heap.lt_size ho
  have q1 := Nat.ne_of_lt q
  have q2 := Nat.ne_of_lt (Nat.lt_succ_of_lt q)
  refine ⟨_, get?_update_seq ho fun _ => #[], ?_⟩
  unfold midHeap
  rw [Heap.get?_push_ne _ _ _ (by rw [size_push', Heap.size_update]; exact q2), Heap.get?_push_ne _ _ _ (by rw [Heap.size_update]; exact q1)]; exact get?_update_seq ho fun _ => #[]
theorem sort_pure {a : Addr} {vs : List Value} {n : Nat} {κ : SortKind} {lt : Nat → Nat → Bool} {P : PySem.Fin → Shared → Prop} (ho : s.heap.get? a = some (seqObj "list" vs.toArray n)) (h64 : vs.length < 64)
    (hk : 2 ≤ vs.length → ∀ (Q : SortKind → Shared → Prop), Q κ { s with heap := midHeap s.heap a vs } → wpAny (model prog w) A (keyKind' vs.toArray) Q E { s with heap := midHeap s.heap a vs })
    (hc : ∀ i j, i < vs.length → j < vs.length → ∀ (C : Bool → Shared → Prop), C (lt i j) { s with heap := midHeap s.heap a vs } → kas_ask prog w A κ vs i j C { s with heap := midHeap s.heap a vs })
    (h : P (.done (.ret .none)) { s with heap := sortedHeap s.heap a vs ((outOf lt vs.length).map fun i => vs.getD i Value.none).toArray }) :
    wpAny (model prog w) A (Builtin.«list.sort» ⟨[.ref a], []⟩) P E s := by
  have hz : vs.toArray.size = vs.length := by simp
  obtain ⟨e1, o1, o2⟩ := midHeap_at (vs := vs) ho
  rw [list_sort_plain]
  refine wpAny_bind (listItems_at ho rfl (wpAny_bind (listUpdate_at ho rfl (wpAny_bind (seqEpoch_at o1 rfl (wpAny_bind (wpAny_newTuple (wpAny_bind (wpAny_newList (wpAny_holding ?_))))))))))
  show wpAny _ _ _ P E { s with heap := midHeap s.heap a vs }
  dsimp only
  have fits : ∀ {p : Array Nat}, p.size = vs.length → (List.toArray (p.toList.map fun i => vs.getD i Value.none)).size ≤ sizeLine + 1 := fun {p} hp => by
    rw [List.size_toArray, List.length_map, Array.length_toList, hp, sizeLine_eq]; omega
  by_cases h2 : vs.length < 2
  · rw [if_pos (by rw [hz]; exact h2), if_pos (by rw [hz]; exact h2)]
    refine wpAny_bind (wpAny_pure ?_); rw [StateT.run_pure]; refine wpAny_bind (wpAny_pure ?_); dsimp only
    have out := kat_snds (ks := vs) (vs := vs) rfl (st := SortSt.mk' general' (vs.toArray.zip vs.toArray) #[] 7 none) (p := List.toArray (List.range vs.length)) (by
      have e := kas_range (vs.toArray.zip vs.toArray)
      rw [show (vs.toArray.zip vs.toArray).size = vs.length by simp] at e
      exact e.symm)
    rw [out]
    refine wpAny_bind (seqEpoch_at o2 rfl (wpAny_bind (listUpdate_at o2 rfl ?_ (hsz2 := fits (by simp))))); simp only [bne_self_eq_false, Bool.false_eq_true, if_false]
    unfold outOf at h
    rw [if_pos h2] at h
    exact wpAny_pure h
  · rw [if_neg (by rw [hz]; exact h2), if_neg (by rw [hz]; exact h2)]
    refine wpAny_bind (hk (by omega) _ (wpAny_bind (wpAny_mono (kat_run (ks := vs) (vs := vs) (κ := κ) (Q := fun st' s' => s' = { s with heap := midHeap s.heap a vs } ∧ failedOf st' = none ∧ (arrOf st').map (·.2) = List.toArray ((outOf lt vs.length).map fun i => vs.getD i Value.none) ∧ (outOf lt vs.length).length = vs.length)
      (G := fun p s' => s' = { s with heap := midHeap s.heap a vs } ∧ p = go lt (kas_sort vs.length)) rfl (by omega) h64 (fun p st' s' a1 a2 a3 a4 => ⟨a4.1, a3, ?_, ?_⟩) (go_wp' hc _ (sort_asks (by omega)) ⟨rfl, rfl⟩)) ?_ fun _ _ e => e)))
    · unfold outOf
      rw [if_neg h2, ← a4.2]
      exact kat_snds rfl a2
    · unfold outOf
      rw [if_neg h2, ← a4.2, Array.length_toList, a1]
    · rintro ⟨⟨⟩, st'⟩ s' ⟨rfl, hf, har, hln⟩
      dsimp only
      rw [har]
      refine wpAny_bind (seqEpoch_at o2 rfl (wpAny_bind (listUpdate_at o2 rfl ?_ (hsz2 := by rw [List.size_toArray, List.length_map, hln, sizeLine_eq]; omega)))); rw [hf]; simp only [bne_self_eq_false, Bool.false_eq_true, if_false]
      exact wpAny_pure h
theorem sorted_pure {l : Addr} {vs : List Value} {κ : SortKind} {lt : Nat → Nat → Bool} {Q : Value → Shared → Prop} (hl : s.heap.IsList l vs.toArray) (h64 : vs.length < 64)
    (hk : ∀ (A' : Around) (h' : Heap), (∀ b o, s.heap.get? b = some o → h'.get? b = some o) → 2 ≤ vs.length → ∀ (Q' : SortKind → Shared → Prop) E', Q' κ { s with heap := h' } → wpAny (model prog w) A' (keyKind' vs.toArray) Q' E' { s with heap := h' })
    (hc : ∀ (A' : Around) (h' : Heap), (∀ b o, s.heap.get? b = some o → h'.get? b = some o) → ∀ i j, i < vs.length → j < vs.length → ∀ (C : Bool → Shared → Prop), C (lt i j) { s with heap := h' } → kas_ask prog w A' κ vs i j C { s with heap := h' })
    (h : Q (.ref (s.heap.objs.size + 1)) { s with heap := sortedAll s.heap vs ((outOf lt vs.length).map fun i => vs.getD i Value.none).toArray }) :
    wpAny (model prog w) A (call (.builtin "sorted") [.ref l]) Q E s := by
  refine Calls.call_function_entry kind_sorted plain_sorted entry_sorted (args_sorted1 _) ?_
  unfold Builtin.«sorted»
  refine wpAny_bind (m := checkCount "sorted" 1 1 _) (wpAny_pure (wpAny_bind (collect_list hl (wpAny_bind (wpAny_newList ?_)) (by rw [sizeLine_eq]; omega))))
  have at1 : (inHeap s.heap vs).get? (s.heap.objs.size + 1) = some (seqObj "list" vs.toArray 0) := by
    unfold inHeap
    rw [← inHeap_size (h := s.heap) (vs := vs)]; exact Heap.get?_push_size _ rfl
  show wpAny _ _ _ _ _ { s with heap := inHeap s.heap vs }
  rw [inHeap_size]
  have old : ∀ b o, s.heap.get? b = some o → (midHeap (inHeap s.heap vs) (s.heap.objs.size + 1) vs).get? b = some o := fun b o e => midHeap_old (inHeap_old e) (Nat.ne_of_lt (Nat.lt_succ_of_lt (Heap.lt_size e)))
  refine wpAny_bind (wpAny_holding (wpAny_call_entry slot_list_sort ⟨_, at1, rfl⟩ entry_list_sort (sort_pure (κ := κ) (lt := lt) (s := { s with heap := inHeap s.heap vs }) at1 h64 (fun h2 Q' q => hk _ _ old h2 Q' _ q) (fun i j hi hj C q => hc _ _ old i j hi hj C q) ⟨_, rfl, wpAny_pure ⟨_, rfl, h⟩⟩) (args_list_sort _)))
end
end S
set_option Elab.async false
set_option linter.all false
set_option maxRecDepth 100000
set_option maxHeartbeats 4000000
namespace S
open PySem PySem.W PyProof.Rows
def Shape : List Bool → List PyData → Prop
  | [], [] => True
  | true :: bs, d :: ds => (∃ x, d = .str x) ∧ Shape bs ds
  | false :: bs, d :: ds => (∃ i, d = .int i) ∧ Shape bs ds
  | _, _ => False
def sEq : PyData → PyData → Bool
  | .int x, .int y => x == y
  | .str x, .str y => x == y
  | _, _ => false
def sLt : PyData → PyData → Bool
  | .int x, .int y => decide (x < y)
  | .str x, .str y => decide (x.cps.toList < y.cps.toList)
  | _, _ => false
def lexD : List PyData → List PyData → Bool
  | a :: as, b :: bs => if sEq a b = true then lexD as bs else sLt a b
  | [], _ :: _ => true
  | _, _ => false
theorem str_ext {x y : Str} (h : x.cps.toList = y.cps.toList) : x = y := by
  cases x; cases y
  simp only [Str.mk.injEq]
  exact Array.toList_inj.mp h
theorem lex_cases {a b : PyData} {as bs : List PyData} {t : Bool} {sh : List Bool} (ha : Shape (t :: sh) (a :: as)) (hb : Shape (t :: sh) (b :: bs)) :
    Shape sh as ∧ Shape sh bs ∧ ((a = b ∧ lexD (a :: as) (b :: bs) = lexD as bs) ∨ (a ≠ b ∧ sLt a b = true ∧ sLt b a = false ∧ lexD (a :: as) (b :: bs) = true) ∨ (a ≠ b ∧ sLt a b = false ∧ sLt b a = true ∧ lexD (a :: as) (b :: bs) = false)) := by
  cases t with
  | true =>
    obtain ⟨⟨x, rfl⟩, h⟩ := ha
    obtain ⟨⟨y, rfl⟩, h'⟩ := hb
    refine ⟨h, h', ?_⟩
    by_cases e : x = y
    · subst e
      exact .inl ⟨rfl, by simp [lexD, sEq]⟩
    · have ne : PyData.str x ≠ PyData.str y := fun z => e (by injection z)
      have e2 : sEq (.str x) (.str y) = false := by simp [sEq, e]
      have hl : lexD (.str x :: as) (.str y :: bs) = sLt (.str x) (.str y) := by simp [lexD, e2]
      rw [hl]
      have nl : x.cps.toList ≠ y.cps.toList := fun z => e (str_ext z)
      simp only [sLt]
      by_cases q : x.cps.toList < y.cps.toList
      · have : ¬ y.cps.toList < x.cps.toList := fun z => List.lt_irrefl _ (List.lt_trans q z)
        exact .inr (.inl ⟨ne, by simp [q], by simp [this], by simp [q]⟩)
      · have : y.cps.toList < x.cps.toList := by
          apply Classical.byContradiction
          intro z
          exact nl (List.le_antisymm (List.not_lt.mp z) (List.not_lt.mp q))
        exact .inr (.inr ⟨ne, by simp [q], by simp [this], by simp [q]⟩)
  | false =>
    obtain ⟨⟨x, rfl⟩, h⟩ := ha
    obtain ⟨⟨y, rfl⟩, h'⟩ := hb
    refine ⟨h, h', ?_⟩
    by_cases e : x = y
    · subst e
      exact .inl ⟨rfl, by simp [lexD, sEq]⟩
    · have ne : PyData.int x ≠ PyData.int y := fun z => e (by injection z)
      have e2 : sEq (.int x) (.int y) = false := by simp [sEq, e]
      have hl : lexD (.int x :: as) (.int y :: bs) = sLt (.int x) (.int y) := by simp [lexD, e2]
      rw [hl]
      simp only [sLt]
      by_cases q : x < y
      · exact .inr (.inl ⟨ne, by simp [q], by simp; omega, by simp [q]⟩)
      · exact .inr (.inr ⟨ne, by simp [q], by simp; omega, by simp [q]⟩)
theorem slt_tr {t : Bool} {sh : List Bool} {a b c : PyData} {as bs cs : List PyData} (ha : Shape (t :: sh) (a :: as)) (hb : Shape (t :: sh) (b :: bs)) (hc : Shape (t :: sh) (c :: cs)) (h1 : sLt a b = true) (h2 : sLt b c = true) : sLt a c = true := by
  cases t with
  | true =>
    obtain ⟨⟨x, rfl⟩, _⟩ := ha
    obtain ⟨⟨y, rfl⟩, _⟩ := hb
    obtain ⟨⟨z, rfl⟩, _⟩ := hc
    simp only [sLt, decide_eq_true_eq] at *
    exact List.lt_trans h1 h2
  | false =>
    obtain ⟨⟨x, rfl⟩, _⟩ := ha
    obtain ⟨⟨y, rfl⟩, _⟩ := hb
    obtain ⟨⟨z, rfl⟩, _⟩ := hc
    simp only [sLt, decide_eq_true_eq] at *
    omega
theorem lex_asym : ∀ {sh : List Bool} {xs ys : List PyData}, Shape sh xs → Shape sh ys → lexD xs ys = true → lexD ys xs = false
  | [], [], [], _, _, h => by simp [lexD] at h
  | t :: sh, a :: as, b :: bs, ha, hb, h => by
    obtain ⟨h1, h2, c⟩ := lex_cases ha hb
    obtain ⟨_, _, c'⟩ := lex_cases hb ha
    rcases c with ⟨e, l⟩ | ⟨ne, l1, l2, l⟩ | ⟨ne, l1, l2, l⟩
    · subst e
      rcases c' with ⟨_, l'⟩ | ⟨ne, _⟩ | ⟨ne, _⟩
      · rw [l']; rw [l] at h; exact lex_asym h1 h2 h
      · exact absurd rfl ne
      · exact absurd rfl ne
    · rcases c' with ⟨e, _⟩ | ⟨_, l3, _, _⟩ | ⟨_, _, _, l'⟩
      · exact absurd e.symm ne
      · rw [l2] at l3; cases l3
      · exact l'
    · rw [l] at h; cases h
  | [], a :: as, _, h, _, _ => by cases h
  | [], [], b :: bs, _, h, _ => by cases h
  | t :: sh, [], _, h, _, _ => by cases t <;> cases h
  | t :: sh, a :: as, [], _, h, _ => by cases t <;> cases h
theorem lex_anti : ∀ {sh : List Bool} {xs ys : List PyData}, Shape sh xs → Shape sh ys → lexD xs ys = false → lexD ys xs = false → xs = ys
  | [], [], [], _, _, _, _ => rfl
  | t :: sh, a :: as, b :: bs, ha, hb, h, h' => by
    obtain ⟨h1, h2, c⟩ := lex_cases ha hb
    obtain ⟨_, _, c'⟩ := lex_cases hb ha
    rcases c with ⟨e, l⟩ | ⟨ne, l1, l2, l⟩ | ⟨ne, l1, l2, l⟩
    · subst e
      rcases c' with ⟨_, l'⟩ | ⟨ne, _⟩ | ⟨ne, _⟩
      · rw [l'] at h'; rw [l] at h; rw [lex_anti h1 h2 h h']
      · exact absurd rfl ne
      · exact absurd rfl ne
    · rw [l] at h; cases h
    · rcases c' with ⟨e, _⟩ | ⟨_, _, _, l'⟩ | ⟨_, l3, _, _⟩
      · exact absurd e.symm ne
      · rw [l'] at h'; cases h'
      · rw [l2] at l3; cases l3
  | [], a :: as, _, h, _, _, _ => by cases h
  | [], [], b :: bs, _, h, _, _ => by cases h
  | t :: sh, [], _, h, _, _, _ => by cases t <;> cases h
  | t :: sh, a :: as, [], _, h, _, _ => by cases t <;> cases h
theorem lex_tr : ∀ {sh : List Bool} {xs ys zs : List PyData}, Shape sh xs → Shape sh ys → Shape sh zs → lexD xs ys = true → lexD ys zs = true → lexD xs zs = true
  | [], [], [], [], _, _, _, h, _ => by simp [lexD] at h
  | t :: sh, a :: as, b :: bs, c :: cs, ha, hb, hc, h, h' => by
    obtain ⟨h1, h2, k1⟩ := lex_cases ha hb
    obtain ⟨_, h3, k2⟩ := lex_cases hb hc
    obtain ⟨_, _, k3⟩ := lex_cases ha hc
    rcases k1 with ⟨e, l⟩ | ⟨ne, l1, l2, l⟩ | ⟨ne, l1, l2, l⟩
    · subst e
      rcases k2 with ⟨e, m⟩ | ⟨ne, m1, m2, m⟩ | ⟨ne, m1, m2, m⟩
      · subst e
        rcases k3 with ⟨_, n⟩ | ⟨ne, _⟩ | ⟨ne, _⟩
        · rw [n]; rw [l] at h; rw [m] at h'; exact lex_tr h1 h2 h3 h h'
        · exact absurd rfl ne
        · exact absurd rfl ne
      · rcases k3 with ⟨e, _⟩ | ⟨_, _, _, n⟩ | ⟨_, n1, _, _⟩
        · exact absurd e ne
        · exact n
        · rw [m1] at n1; cases n1
      · rw [m] at h'; cases h'
    · rcases k2 with ⟨e, m⟩ | ⟨ne', m1, m2, m⟩ | ⟨ne', m1, m2, m⟩
      · subst e
        rcases k3 with ⟨e, _⟩ | ⟨_, _, _, n⟩ | ⟨_, n1, _, _⟩
        · exact absurd e ne
        · exact n
        · rw [l1] at n1; cases n1
      · have q := slt_tr ha hb hc l1 m1
        rcases k3 with ⟨e, _⟩ | ⟨_, _, _, n⟩ | ⟨_, n1, _, _⟩
        · subst e
          rw [l2] at m1; cases m1
        · exact n
        · rw [q] at n1; cases n1
      · rw [m] at h'; cases h'
    · rw [l] at h; cases h
  | [], a :: as, _, _, h, _, _, _, _ => by cases h
  | [], [], b :: bs, _, _, h, _, _, _ => by cases h
  | [], [], [], c :: cs, _, _, h, _, _ => by cases h
  | t :: sh, [], _, _, h, _, _, _, _ => by cases t <;> cases h
  | t :: sh, a :: as, [], _, _, h, _, _, _ => by cases t <;> cases h
  | t :: sh, a :: as, b :: bs, [], _, _, h, _, _ => by cases t <;> cases h
theorem lex_le_tr {sh : List Bool} {xs ys zs : List PyData} (hx : Shape sh xs) (hy : Shape sh ys) (hz : Shape sh zs) (h : lexD ys xs = false) (h' : lexD zs ys = false) : lexD zs xs = false := by
  cases e : lexD zs xs with
  | false => rfl
  | true =>
    cases e2 : lexD xs ys with
    | true => have := lex_tr hz hx hy e e2; rw [h'] at this; cases this
    | false =>
      have := lex_anti hx hy e2 h
      subst this
      rw [h'] at e; cases e
theorem sorted_uniq {sh : List Bool} {as bs : List (List PyData)} (hs : ∀ r ∈ as, Shape sh r) (p : as.Perm bs) (h1 : as.Pairwise fun x y => lexD y x = false) (h2 : bs.Pairwise fun x y => lexD y x = false) : as = bs :=
  List.Perm.eq_of_pairwise (fun x y hx hy a b => lex_anti (hs x hx) (hs y (p.mem_iff.mpr hy)) b a) h1 h2 p
def rowAt (rows : List (List PyData)) (i : Nat) : List PyData := rows.getD i (rows.headD [])
theorem rowAt_shape {sh : List Bool} {rows : List (List PyData)} (hne : rows ≠ []) (h : ∀ r ∈ rows, Shape sh r) (i : Nat) : Shape sh (rowAt rows i) := by
  unfold rowAt
  match rows, hne with
  | r :: rs, _ =>
    by_cases hi : i < (r :: rs).length
    · rw [List.getD_eq_getElem?_getD, List.getElem?_eq_getElem hi]
      exact h _ (List.getElem_mem hi)
    · rw [List.getD_eq_getElem?_getD, List.getElem?_eq_none (by omega)]
      exact h r (by simp)
theorem lex_weak {sh : List Bool} {rows : List (List PyData)} (hne : rows ≠ []) (h : ∀ r ∈ rows, Shape sh r) : Weak fun i j => lexD (rowAt rows i) (rowAt rows j) :=
  ⟨fun a b => lex_asym (rowAt_shape hne h a) (rowAt_shape hne h b), fun a b c => lex_le_tr (rowAt_shape hne h a) (rowAt_shape hne h b) (rowAt_shape hne h c)⟩
theorem map_range_getD {α : Type} (d : α) (l : List α) : (List.range l.length).map (fun i => l.getD i d) = l := by
  apply List.ext_getElem
  · simp
  · intro i h1 h2
    simp at h1
    simp [h1]
theorem map_range_rowAt (rows : List (List PyData)) : (List.range rows.length).map (rowAt rows) = rows := map_range_getD _ rows
theorem out_rows {sh : List Bool} {rows : List (List PyData)} (hne : rows ≠ []) (h : ∀ r ∈ rows, Shape sh r) :
    ((outOf (fun i j => lexD (rowAt rows i) (rowAt rows j)) rows.length).map (rowAt rows)).Perm rows ∧ ((outOf (fun i j => lexD (rowAt rows i) (rowAt rows j)) rows.length).map (rowAt rows)).Pairwise fun x y => lexD y x = false := by
  obtain ⟨p, q⟩ := outOf_ok (lex_weak hne h) rows.length
  refine ⟨?_, ?_⟩
  · have := p.map (rowAt rows)
    rwa [map_range_rowAt] at this
  · rw [List.pairwise_map]
    exact q.imp fun {a b} z => B.le (lex_weak hne h) z
def RowV : List PyData → List Value → Prop := Paired fun d u => (∃ i t, d = .int i ∧ u = .int i t) ∨ ∃ x t, d = .str x ∧ u = .str x t
section
variable {prog : Program} {w : World} {A : Around} {Q : Bool → Shared → Prop}
theorem lex_wp : ∀ {sh : List Bool} {xs ys : List PyData} {us vs : List Value} (i : Nat) (s : Shared), Shape sh xs → Shape sh ys → RowV xs us → RowV ys vs → Q (lexD xs ys) s → KatLex prog w A true false Q (us.zip vs) i s
  | [], [], [], us, vs, i, s, _, _, h1, h2, q => by
    cases h1
    exact q
  | t :: sh, a :: as, b :: bs, us, vs, i, s, ha, hb, h1, h2, q => by
    cases h1 with
    | cons r1 t1 =>
      cases h2 with
      | cons r2 t2 =>
        cases t with
        | true =>
          obtain ⟨⟨x, rfl⟩, sa⟩ := ha
          obtain ⟨⟨y, rfl⟩, sb⟩ := hb
          rcases r1 with ⟨_, _, e, _⟩ | ⟨x', tx, e, e'⟩
          · cases e
          · cases e
            subst e'
            rcases r2 with ⟨_, _, e, _⟩ | ⟨y', ty, e, e'⟩
            · cases e
            · cases e
              subst e'
              refine kat_cons (eqBool_str ?_)
              by_cases e : x = y
              · subst e
                have : (x == x) = true := by simp
                rw [this]
                refine kat_yes (lex_wp (i + 1) s sa sb t1 t2 ?_)
                simpa [lexD, sEq] using q
              · have e1 : (x == y) = false := by simp [e]
                rw [e1]
                refine kat_no ?_
                have q' : Q (decide (x.cps.toList < y.cps.toList)) s := by simpa [lexD, sEq, e, sLt] using q
                cases hb : (true && i == 0) with
                | true => exact oneLt_str q'
                | false => exact kat_one _ _ (lt_str q')
        | false =>
          obtain ⟨⟨x, rfl⟩, sa⟩ := ha
          obtain ⟨⟨y, rfl⟩, sb⟩ := hb
          rcases r1 with ⟨x', tx, e, e'⟩ | ⟨_, _, e, _⟩
          · cases e
            subst e'
            rcases r2 with ⟨y', ty, e, e'⟩ | ⟨_, _, e, _⟩
            · cases e
              subst e'
              refine kat_cons (wpAny_eqBool_int ?_)
              by_cases e : x = y
              · subst e
                have : (x == x) = true := by simp
                rw [this]
                refine kat_yes (lex_wp (i + 1) s sa sb t1 t2 ?_)
                simpa [lexD, sEq] using q
              · have e1 : (x == y) = false := by simp [e]
                rw [e1]
                refine kat_no ?_
                have q' : Q (decide (x < y)) s := by simpa [lexD, sEq, e, sLt] using q
                cases hb : (true && i == 0) with
                | true => exact oneLt_int q'
                | false => exact kat_one _ _ (lt_int q')
            · cases e
          · cases e
  | [], a :: as, _, _, _, _, _, h, _, _, _, _ => by cases h
  | [], [], b :: bs, _, _, _, _, _, h, _, _, _ => by cases h
  | t :: sh, [], _, _, _, _, _, h, _, _, _, _ => by cases t <;> cases h
  | t :: sh, a :: as, [], _, _, _, _, _, h, _, _, _ => by cases t <;> cases h
end
end S
namespace D
open PySem PySem.Spec PyProof.Rows L2 S
section
variable {K : PySem.W.Frag}
theorem row_vals {H : Hp} : ∀ {sh : List Bool} {ds : List PyData} {vs : List V} {us : List Value}, Shape sh ds → RepA K H ds vs → Vals vs us → RowV ds us
  | [], [], vs, us, _, h, r => by
    simp only [RepA] at h
    subst h
    cases r
    exact .nil
  | t :: sh, d :: ds, vs, us, hs, h, r => by
    simp only [RepA] at h
    obtain ⟨v, rs, e, h1, h2⟩ := h
    subst e
    cases r with
    | cons r1 r2 =>
      cases t with
      | true =>
        obtain ⟨⟨x, rfl⟩, hs⟩ := hs
        simp only [RepD] at h1
        subst h1
        obtain ⟨tk, e⟩ := (show ∃ t, _ = Value.str x t from r1)
        exact .cons (.inr ⟨x, tk, rfl, e⟩) (row_vals hs h2 r2)
      | false =>
        obtain ⟨⟨x, rfl⟩, hs⟩ := hs
        simp only [RepD] at h1
        subst h1
        obtain ⟨tk, e⟩ := (show ∃ t, _ = Value.int x t from r1)
        exact .cons (.inl ⟨x, tk, rfl, e⟩) (row_vals hs h2 r2)
  | [], d :: ds, _, _, h, _, _ => by cases h
  | t :: sh, [], _, _, h, _, _ => by cases t <;> cases h
theorem RowV.len : ∀ {ds : List PyData} {us : List Value}, RowV ds us → us.length = ds.length := fun h => (Paired.length h).symm
theorem shape_len : ∀ {sh : List Bool} {ds : List PyData}, Shape sh ds → ds.length = sh.length
  | [], [], _ => rfl
  | true :: sh, d :: ds, h => by simp [shape_len h.2]
  | false :: sh, d :: ds, h => by simp [shape_len h.2]
  | [], _ :: _, h => by cases h
  | t :: sh, [], h => by cases t <;> cases h
def RowsAt (h : Heap) (sh : List Bool) (rows : List (List PyData)) (its : List Value) : Prop := Paired (fun row u => Shape sh row ∧ ∃ a o us n, u = Value.ref a ∧ h.get? a = some o ∧ o.cls = .type "tuple" ∧ o.data = .seq us n ∧ RowV row us.toList) rows its
theorem RowsAt.keep {h h' : Heap} {sh : List Bool} {rows : List (List PyData)} {its : List Value} (k : ∀ b o, h.get? b = some o → h'.get? b = some o) (r : RowsAt h sh rows its) : RowsAt h' sh rows its :=
  Paired.mapP r fun row u ⟨s, a, o, us, n, e, g, c, d, q⟩ => ⟨s, a, o, us, n, e, k _ _ g, c, d, q⟩
theorem RowsAt.get {h : Heap} {sh : List Bool} : ∀ {rows : List (List PyData)} {its : List Value} (i : Nat), i < rows.length → RowsAt h sh rows its → ∃ a o us n, its.getD i Value.none = .ref a ∧ h.get? a = some o ∧ o.cls = .type "tuple" ∧ o.data = .seq us n ∧ Shape sh (rowAt rows i) ∧ RowV (rowAt rows i) us.toList := by
  have main : ∀ {rows : List (List PyData)} {its : List Value} (i : Nat) (dflt : List PyData), i < rows.length → RowsAt h sh rows its → ∃ a o us n, its.getD i Value.none = .ref a ∧ h.get? a = some o ∧ o.cls = .type "tuple" ∧ o.data = .seq us n ∧ Shape sh (rows.getD i dflt) ∧ RowV (rows.getD i dflt) us.toList := by
    intro rows
    induction rows with
    | nil => intro its i d hi _; simp at hi
    | cons row rows ih =>
      intro its i d hi r
      cases r with
      | cons r1 r2 =>
        cases i with
        | zero =>
          obtain ⟨s, a, o, us, n, e, g, c, dd, q⟩ := r1
          exact ⟨a, o, us, n, e, g, c, dd, s, q⟩
        | succ i =>
          obtain ⟨a, o, us, n, e, z⟩ := ih i d (by simpa using hi) r2
          exact ⟨a, o, us, n, by simpa using e, by simpa using z⟩
  exact fun {rows its} i hi r => main i _ hi r
theorem RowsAt.tups {h : Heap} {t : Bool} {sh : List Bool} : ∀ {rows : List (List PyData)} {its : List Value}, RowsAt h (t :: sh) rows its → ∃ fs, PySem.W.KatTups h its fs ∧ fs.length = its.length ∧ ∀ v ∈ fs, (t = true ∧ ∃ x k, v = Value.str x k) ∨ (t = false ∧ ∃ i k, v = Value.int i k)
  | [], its, r => by
    cases r
    exact ⟨[], .nil, rfl, fun v hv => by simp at hv⟩
  | row :: rows, its, r => by
    cases r with
    | cons r1 r2 =>
      obtain ⟨fs, h1, h2, h3⟩ := RowsAt.tups r2
      obtain ⟨s, a, o, us, n, e, g, c, dd, q⟩ := r1
      subst e
      match row, s with
      | d :: ds, s =>
        obtain ⟨f, us2, eu, hf⟩ : ∃ f us2, us.toList = f :: us2 ∧ ((t = true ∧ ∃ x k, f = Value.str x k) ∨ (t = false ∧ ∃ i k, f = Value.int i k)) := by
          generalize us.toList = ul at q
          cases q with
          | @cons _ u _ ul2 q1 q2 =>
            refine ⟨u, ul2, rfl, ?_⟩
            cases t with
            | true =>
              obtain ⟨⟨x, rfl⟩, _⟩ := s
              rcases q1 with ⟨_, _, e, _⟩ | ⟨_, k, e, e'⟩
              · cases e
              · exact .inl ⟨rfl, _, _, e'⟩
            | false =>
              obtain ⟨⟨x, rfl⟩, _⟩ := s
              rcases q1 with ⟨_, k, e, e'⟩ | ⟨_, _, e, _⟩
              · exact .inr ⟨rfl, _, _, e'⟩
              · cases e
        have e0 : us[0]? = some f := by
          have : us.toList[0]? = some f := by rw [eu]; rfl
          simpa using this
        refine ⟨f :: fs, .cons g c dd e0 h1, by simp [h2], fun v hv => ?_⟩
        rcases List.mem_cons.mp hv with rfl | hv
        · exact hf
        · exact h3 v hv
      | [], s => cases t <;> cases s
end
section
variable {X : Cx} {K : PySem.W.Frag}
theorem rows_at {pins : List (Addr × Obj)} {σ : St} {H : Hp} {s : Shared} {sh : List Bool} (I : Inv X pins σ H s) : ∀ {rows : List (List PyData)} {vs : List V} {its : List Value}, (∀ r ∈ rows, Shape sh r) → RepA X.K H (rows.map PyData.tuple) vs → Vals vs its → RowsAt s.heap sh rows its
  | [], vs, its, _, h, r => by
    simp only [List.map_nil, RepA] at h
    subst h
    cases r
    exact .nil
  | row :: rows, vs, its, hs, h, r => by
    simp only [List.map_cons, RepA] at h
    obtain ⟨v, rs, e, h1, h2⟩ := h
    subst e
    cases r with
    | cons r1 r2 =>
      simp only [RepD] at h1
      obtain ⟨a, us, ev, hq, ra⟩ := h1
      subst ev
      cases r1
      obtain ⟨uts, ru, ⟨o, ho, hc, n, hd⟩, _⟩ := I.tuple hq
      have s1 := hs row (by simp)
      exact .cons ⟨s1, a, o, uts.toArray, n, rfl, ho, hc, hd, by simpa using row_vals s1 ra ru⟩ (rows_at I (fun r hr => hs r (by simp [hr])) h2 r2)
theorem call_sortedT : CallR X (.builtin "sorted") (fun xs H Q => ∃ p vs rows t sh, xs = [.ref p] ∧ SqL X.K H p vs ∧ RepA X.K H (rows.map PyData.tuple) vs ∧ (∀ r ∈ rows, Shape (t :: sh) r) ∧ rows.length < 64 ∧
    ∀ l, H l = none → Q (.ref l) (upd H l (.lst ((outOf (fun i j => lexD (rowAt rows i) (rowAt rows j)) rows.length).map fun i => vs.getD i .non)))) := by
  intro pins s σ H xs us Q I r h
  obtain ⟨p, vs, rows, t, sh, rfl, hq, ra, hs, hz, q⟩ := h
  obtain ⟨u, rfl, rx⟩ := vals1 r
  cases rx
  obtain ⟨its, rv, pl, _⟩ := I.list hq
  have hl := rv.length
  have hl2 := ra.length
  rw [List.length_map] at hl2
  have R := rows_at I hs ra rv
  refine sorted_pure (κ := tuples' true) (lt := fun i j => lexD (rowAt rows i) (rowAt rows j)) pl.isList (by omega) (fun A' h' k h2 Q' E' q' => ?_) (fun A' h' k i j hi hj C c => ?_) ?_
  · obtain ⟨fs, t1, t2, t3⟩ := RowsAt.tups (R.keep k)
    cases t with
    | true => exact PySem.W.kat_kind (s := { s with heap := h' }) (T := .type "str") t1 (by omega) (fun v hv => by rcases t3 v hv with ⟨_, x, k, rfl⟩ | ⟨e, _⟩; exact .now; cases e) rfl q'
    | false => exact PySem.W.kat_kind (s := { s with heap := h' }) (T := .type "int") t1 (by omega) (fun v hv => by rcases t3 v hv with ⟨e, _⟩ | ⟨_, x, k, rfl⟩; cases e; exact .now) rfl q'
  · obtain ⟨a, oa, xa, na, e1, g1, c1, d1, s1, w1⟩ := (R.keep k).get i (by omega)
    obtain ⟨b, ob, xb, nb, e2, g2, c2, d2, s2, w2⟩ := (R.keep k).get j (by omega)
    unfold PySem.W.kas_ask
    rw [e1, e2]
    refine PySem.W.kat_lt (s := { s with heap := h' }) g1 d1 g2 d2 ?_
    have hn : decide (xa.size < xb.size) = false := by
      have z1 := RowV.len w1
      have z2 := RowV.len w2
      rw [shape_len s1] at z1
      rw [shape_len s2] at z2
      simp only [Array.length_toList] at z1 z2
      simp; omega
    rw [hn]
    exact lex_wp 0 _ s1 s2 w1 w2 c
  · obtain ⟨n, e⟩ := sortedAll_at s.heap its ((outOf (fun i j => lexD (rowAt rows i) (rowAt rows j)) its.length).map fun i => its.getD i Value.none).toArray
    have hfr : H (s.heap.objs.size + 1) = none := I.hok.fresh (Nat.le_succ _)
    have hlen : its.length = rows.length := by omega
    rw [hlen] at e
    rw [hlen]
    have olen : (outOf (fun i j => lexD (rowAt rows i) (rowAt rows j)) rows.length).length ≤ 64 := by
      by_cases z : rows = []
      · subst z; simp [outOf]
      · have := (outOf_ok (lex_weak z hs) rows.length).1.length_eq
        rw [List.length_range] at this
        omega
    refine ⟨.ref _, _, I.laid (a := s.heap.objs.size + 1) (o := .lst ((outOf (fun i j => lexD (rowAt rows i) (rowAt rows j)) rows.length).map fun i => vs.getD i .non)) (t' := s.toks) (fun b o z => sortedAll_old z) (Nat.le_succ _) ⟨?_, _, n, ?_, e⟩, rfl, q _ hfr⟩
    · rw [List.length_map]
      have := s16
      omega
    · have main : ∀ is : List Nat, (∀ i ∈ is, i < rows.length) → Vals (is.map fun i => vs.getD i .non) (is.map fun i => its.getD i Value.none) := by
        intro is
        induction is with
        | nil => intro _; exact .nil
        | cons i is ih =>
          intro hi
          refine .cons ?_ (ih fun j hj => hi j (by simp [hj]))
          have h1 := hi i (by simp)
          obtain ⟨u, e1, e2⟩ := Vals.get (i := i) (x := vs.getD i .non) rv (by simp [List.getD_eq_getElem?_getD, List.getElem?_eq_getElem (show i < vs.length by omega)])
          have e3 : its.getD i Value.none = u := by rw [List.getD_eq_getElem?_getD, e1]; rfl
          show RelV (vs.getD i .non) (its.getD i Value.none)
          rw [e3]; exact e2
      refine main _ fun i hi => ?_
      by_cases z : rows = []
      · subst z; simp [outOf] at hi
      · simpa using (outOf_ok (lex_weak z hs) rows.length).1.mem_iff.mp hi
def tupsW (rows : List (List PyData)) : List W := rows.map fun r => .d (.tuple r)
def rdSortT (ws : List W) (M : MH) (Q : QD) : Prop := ∃ w rows t sh, ws = [w] ∧ LstW M w (rows.map PyData.tuple) ∧ (∀ r ∈ rows, Shape (t :: sh) r) ∧ rows.length < 64 ∧ ∀ rows', rows'.Perm rows → (rows'.Pairwise fun x y => lexD y x = false) → ∀ p, M p = none → Q (.m p) (updM M p (.lst (tupsW rows')))
theorem cd_sortT : CallD K (fun xs H Q => ∃ p vs rows t sh, xs = [.ref p] ∧ SqL K H p vs ∧ RepA K H (rows.map PyData.tuple) vs ∧ (∀ r ∈ rows, Shape (t :: sh) r) ∧ rows.length < 64 ∧
    ∀ l, H l = none → Q (.ref l) (upd H l (.lst ((outOf (fun i j => lexD (rowAt rows i) (rowAt rows j)) rows.length).map fun i => vs.getD i .non)))) rdSortT := by
  intro vs H ws M Qd Q r m ⟨w, rows, t, sh, e, g, hs, hz, q⟩ k
  subst e
  obtain ⟨v, e1, r1⟩ := repWs1 r
  obtain ⟨p, ys, ev, hq, ra⟩ := g.sound r1 m
  subst ev
  refine ⟨p, ys, rows, t, sh, e1, hq, ra, hs, hz, fun l hl => ?_⟩
  have hl2 := ra.length
  rw [List.length_map] at hl2
  obtain ⟨pp, pw⟩ : ((outOf (fun i j => lexD (rowAt rows i) (rowAt rows j)) rows.length).map (rowAt rows)).Perm rows ∧ ((outOf (fun i j => lexD (rowAt rows i) (rowAt rows j)) rows.length).map (rowAt rows)).Pairwise fun x y => lexD y x = false := by
    by_cases z : rows = []
    · subst z; simp [outOf]
    · exact out_rows z hs
  have mem : ∀ i ∈ outOf (fun i j => lexD (rowAt rows i) (rowAt rows j)) rows.length, i < rows.length := fun i hi => by
    by_cases z : rows = []
    · subst z; simp [outOf] at hi
    · simpa using (outOf_ok (lex_weak z hs) rows.length).1.mem_iff.mp hi
  generalize outOf (fun i j => lexD (rowAt rows i) (rowAt rows j)) rows.length = is at pp pw mem
  have kp : Kp H (upd H l (.lst (is.map fun i => ys.getD i .non))) := Kp.new hl
  refine k _ _ (.m l) _ kp rfl (m.put (mo := .lst (tupsW (is.map (rowAt rows)))) kp ⟨_, upd_same, ?_⟩) (q _ pp pw l (m.free hl))
  clear pp pw
  induction is with
  | nil => exact .nil
  | cons i is ih =>
    have hi := mem i (by simp)
    obtain ⟨v, e1, e2⟩ := ra.get (i := i) (d := .tuple (rowAt rows i)) (by
      rw [List.getElem?_map, List.getElem?_eq_getElem hi]
      simp [rowAt, List.getD_eq_getElem?_getD, List.getElem?_eq_getElem hi])
    have e3 : ys.getD i .non = v := by rw [List.getD_eq_getElem?_getD, e1]; rfl
    refine .cons ?_ ?_
    · show RepW K _ (.d (.tuple (rowAt rows i))) (ys.getD i .non)
      rw [e3]
      exact RepD.keep kp e2
    · have := ih (fun j hj => mem j (by simp [hj])) (Kp.new hl)
      exact Paired.mapP this fun a b z => RepW.keep ⟨fun b' xs' e' => by
        by_cases y : b' = l
        · subst y; rw [upd_same] at e'; cases e'
        · rw [upd_ne y] at e' ⊢; exact e', fun b' o' u' e' => by
        by_cases y : b' = l
        · subst y; rw [upd_same] at e'; cases e'
        · rw [upd_ne y] at e' ⊢; exact e'⟩ z
end
end D
set_option Elab.async false
set_option linter.all false
set_option maxRecDepth 100000
set_option maxHeartbeats 4000000
namespace D
open PySem PySem.Spec PyProof.Rows L2 S
section
variable {P : Program} {w : World} {H : Hp} {h h' : Heap} {a : Addr} {o : HO}
theorem obj_is (x : ObjOk P w H h a o) : ∃ ob, h.get? a = some ob := by
  induction o with
  | lst xs => obtain ⟨_, _, _, _, e⟩ := x; exact ⟨_, e⟩
  | tup xs => obtain ⟨_, _, _, ob, e, _⟩ := x; exact ⟨_, e⟩
  | dK kvs => obtain ⟨_, _, _, _, o, _, _, e, _⟩ := x; exact ⟨_, e⟩
  | dT kvs => obtain ⟨_, _, _, _, o, _, _, e, _⟩ := x; exact ⟨_, e⟩
  | set S n => obtain ⟨o, _, _, _, e, _⟩ := x; exact ⟨_, e⟩
  | ins C dx fs => obtain ⟨_, _, _, e, _⟩ := x; exact ⟨_, e⟩
  | own y => obtain ⟨_, e⟩ := x; exact ⟨_, e⟩
  | xd fs => obtain ⟨_, ⟨_, _, _, e, _⟩, _⟩ := x; exact ⟨_, e⟩
  | rng lo hi => obtain ⟨_, _, _, e⟩ := x; exact ⟨_, e⟩
  | frz ob u ih => obtain ⟨e, _⟩ := x; exact ⟨_, e⟩
  | tbl ps => exact ⟨_, show h.get? a = some _ from x⟩
  | met f y => exact ⟨_, show h.get? a = some _ from x⟩
  | ext φ => obtain ⟨_, ⟨_, e⟩, _⟩ := x; exact ⟨_, e⟩
theorem free_of (x : HOk P w H h) (e : h.get? a = none) : H a = none := by
  cases q : H a with
  | none => rfl
  | some u =>
    obtain ⟨ob, z⟩ := obj_is (x a u q)
    rw [e] at z
    cases z
end
section
variable {X : Cx} {pins : List (Addr × Obj)} {σ : St} {H : Hp} {s : Shared} {h' : Heap}
theorem Inv.laidN {a : Addr} {o : HO} {t' : Nat} (I : Inv X pins σ H s) (k : ∀ b u, s.heap.get? b = some u → h'.get? b = some u) (hp : s.heap.get? a = none) (new : ObjOk X.prog X.w (upd H a o) h' a o) :
    Inv X pins σ (upd H a o) { s with heap := h', toks := t' } := by
  have hn := free_of I.hok hp
  have ne : ∀ b u, s.heap.get? b = some u → b ≠ a := fun b u e z => by rw [z, hp] at e; cases e
  refine I.un ⟨fun b ob e _ _ _ => k b ob e, fun b ob e _ _ _ => ⟨ob.slots, k b ob e⟩, fun b ob e n _ => by rw [upd_ne (ne b ob e)]; exact n, fun b ob e _ => ⟨ob, k b ob e⟩, fun b xs e => by rw [upd_ne (ne_of_none e hn)]; exact e, fun b ob u e => by rw [upd_ne (ne_of_none e hn)]; exact e, fun b ps e => ⟨#[], by rw [upd_ne (ne_of_none e hn), e]; simp⟩⟩ fun b u e => ?_
  by_cases hb : b = a
  · subst hb; rw [upd_same] at e; cases e; exact new
  · rw [upd_ne hb] at e
    exact (I.hok b u e).stay (fun c v _ q => k c v q) (fun c q => by rw [upd_ne (ne_of_none q hn)]; exact q) fun c xs q => by rw [upd_ne (ne_of_none q hn)]; exact q
end
section
variable {X : Cx} {K : PySem.W.Frag}
theorem keys_vals {P : Program} {w : World} : ∀ {zs : List Str} {vs : List (Key × Value)} {us : List Value}, vs.map (·.1) = zs.map Sum.inr → us.length = vs.length → (∀ (j : Nat) v, us[j]? = some v → ∃ k x, vs[j]? = some (k, x) ∧ (mixKind P w).is k v = true) → StrsAre us zs
  | [], vs, us, h, hl, hp => by
    have e : vs = [] := by simpa using h
    subst e
    have e : us = [] := by simpa using hl
    subst e
    exact .nil
  | z :: zs, vs, us, h, hl, hp => by
    match vs, us, h, hl, hp with
    | (k, x) :: vs, u :: us, h, hl, hp =>
      simp only [List.map_cons, List.cons.injEq] at h
      obtain ⟨k', x', e, hk⟩ := hp 0 u rfl
      simp at e
      obtain ⟨e1, e2⟩ := e
      subst e1 e2
      rw [h.1, mixKind_is] at hk
      obtain ⟨t, e⟩ : ∃ t, u = .str z t := by
        rcases keyIs_shape hk with ⟨i, t, e, _⟩ | ⟨y, t, e, e'⟩
        · cases e
        · cases e
          exact ⟨t, e'⟩
      subst e
      exact .cons z t (keys_vals h.2 (by simpa using hl) fun j v hj => by simpa using hp (j + 1) v (by simpa using hj))
    | [], _, h, _, _ => simp at h
    | _ :: _, [], _, hl, _ => simp at hl
theorem call_sortedD (hc : X.calm = true) : CallR X (.builtin "sorted") (fun xs H Q => ∃ a kvs zs, xs = [.ref a] ∧ Rd H a (.dK kvs) ∧ kvs.map (·.1) = zs.map Sum.inr ∧ zs.length < 64 ∧ ∀ zs', zs'.Perm zs → sortedS zs' = true → ∀ l, H l = none → Q (.ref l) (upd H l (.lst (zs'.map V.str)))) := by
  intro pins s σ H xs us Q I r h
  obtain ⟨a, kvs, zs, rfl, hq, hk, hz, q⟩ := h
  obtain ⟨u, rfl, rx⟩ := vals1 r
  cases rx
  obtain ⟨hsz, hsys, vs, rel, o, es, ep, hd⟩ := hq.ok I.hok
  have hvs : vs.map (·.1) = zs.map Sum.inr := by
    rw [← hk]
    clear hk hd hq hsz
    induction rel with
    | nil => rfl
    | cons r t ih => simp only [List.map_cons, ih, r.1]
  have hln : vs.length = zs.length := by simpa using congrArg List.length hvs
  refine Calls.call_function_entry kind_sorted plain_sorted entry_sorted (args_sorted1 _) ?_
  unfold Builtin.«sorted»
  have at1 : ∀ (h' : Heap) (l : List Value), (h'.push (seqObj "list" l.toArray 0)).get? h'.objs.size = some (seqObj "list" l.toArray 0) := fun h' l => Heap.get?_push_size _ rfl
  refine wpAny_bind (m := checkCount "sorted" 1 1 _) (wpAny_pure (wpAny_bind (PySem.W.kdu_collect (A := X.A.in1) (PySem.W.kdl_dict (knd := mixKind X.prog X.w) (kvs := vs) (ep := ep) hsys) (I.ok.hd hc) ⟨o, es, hd⟩ (by rw [sizeLine_eq]; omega) fun h' tk acc old hacc => ?_)))
  have hla : acc.toList.length = vs.length := by rw [Array.length_toList]; exact hacc.1
  have hS : StrsAre acc.toList zs := keys_vals hvs hla fun j v hj => hacc.2 j v (by rw [← Array.getElem?_toList]; exact hj)
  refine wpAny_bind (wpAny_newList ?_ (by rw [hla, sizeLine_eq]; omega))
  refine wpAny_bind (wpAny_holding (wpAny_call_entry slot_list_sort ⟨_, at1 h' acc.toList, rfl⟩ entry_list_sort (list_sort_treeK strKind_oneLt (s := { s with heap := h'.push (seqObj "list" acc.toList.toArray 0), toks := tk }) (at1 h' acc.toList) hS.keysOf (fun v₁ v₂ rest e => keyKind_strs (by rw [← e]; exact hS)) (by omega) fun st' hp hs => ⟨_, rfl, wpAny_pure ⟨_, rfl, ?_⟩⟩) (args_list_sort _)))
  obtain ⟨zs', h1, h2, h3⟩ := sorted_out_str hS hp hs
  obtain ⟨n, e⟩ := sortedHeap_at (h := h'.push (seqObj "list" acc.toList.toArray 0)) (vs := acc.toList) (out := (arrOf st').map (·.2)) (at1 h' acc.toList)
  have hge : s.heap.get? h'.objs.size = none := by
    cases q1 : s.heap.get? h'.objs.size with
    | none => rfl
    | some ob =>
      have := Heap.lt_size (old _ _ q1)
      exact absurd this (Nat.lt_irrefl _)
  have keep : ∀ b ob, s.heap.get? b = some ob → (sortedHeap (h'.push (seqObj "list" acc.toList.toArray 0)) h'.objs.size acc.toList ((arrOf st').map (·.2))).get? b = some ob := fun b ob eb => by
    have l1 : b < h'.objs.size := Heap.lt_size (old b ob eb)
    rw [sortedHeap_old (Nat.ne_of_lt l1) (by rw [size_push']; exact Nat.lt_succ_of_lt l1), Heap.get?_push_of_some _ (old b ob eb)]
  have I' : Inv X pins σ (upd H h'.objs.size (.lst (zs'.map V.str))) { s with heap := sortedHeap (h'.push (seqObj "list" acc.toList.toArray 0)) h'.objs.size acc.toList ((arrOf st').map (·.2)), toks := tk } := by
    refine Inv.laidN I keep hge ⟨?_, ((arrOf st').map (·.2)).toList, n, vals_strs h1, by rw [Array.toArray_toList]; exact e⟩
    rw [List.length_map, h2.length_eq]
    have := s16
    omega
  exact ⟨.ref _, _, I', rfl, q zs' h2 h3 _ (free_of I.hok hge)⟩
def rdSortD (ws : List W) (M : MH) (Q : QD) : Prop := ∃ a kvs, ∃ zs : List Str, ws = [.m a] ∧ M a = some (.dic kvs) ∧ kvs.map (·.1) = zs.map Sum.inr ∧ zs.length < 64 ∧ ∀ zs', zs'.Perm zs → sortedS zs' = true → ∀ p, M p = none → Q (.m p) (updM M p (.lst (strsW zs')))
theorem cd_sortD : CallD K (fun xs H Q => ∃ a kvs zs, xs = [.ref a] ∧ Rd H a (.dK kvs) ∧ kvs.map (·.1) = zs.map Sum.inr ∧ zs.length < 64 ∧ ∀ zs', zs'.Perm zs → sortedS zs' = true → ∀ l, H l = none → Q (.ref l) (upd H l (.lst (zs'.map V.str)))) rdSortD := by
  intro vs H ws M Qd Q r m ⟨a, kvs, zs, e, g, hk, hz, q⟩ k
  subst e
  obtain ⟨v, e1, r1⟩ := repWs1 r
  have ev : v = .ref a := r1
  subst ev
  have go : ∀ l : List (Key × V), Rd H a (.dK l) → Paired (fun (p : Key × W) (q : Key × V) => p.1 = q.1 ∧ RepW K H p.2 q.2) kvs l → ∃ a' kvs' zs', [V.ref a] = [.ref a'] ∧ Rd H a' (.dK kvs') ∧ kvs'.map (·.1) = zs'.map Sum.inr ∧ zs'.length < 64 ∧ ∀ zs'', zs''.Perm zs' → sortedS zs'' = true → ∀ l, H l = none → Q (.ref l) (upd H l (.lst (zs''.map V.str))) := by
    intro l hr pr
    refine ⟨a, l, zs, rfl, hr, ?_, hz, fun zs' h1 h2 p hp => ?_⟩
    · rw [← hk]
      clear hk hr g q
      induction pr with
      | nil => rfl
      | cons r t ih => simp only [List.map_cons, ih, r.1]
    · have kp : Kp H (upd H p (.lst (zs'.map V.str))) := Kp.new hp
      exact k _ _ (.m p) _ kp rfl (m.put (mo := .lst (strsW zs')) kp ⟨_, upd_same, reps_strs zs'⟩) (q zs' h1 h2 p (m.free hp))
  subst e1
  obtain ⟨l, hl, pr⟩ := m _ _ g
  exact go l (.inl hl) pr
def isNone : W → Bool
  | .d .none => true
  | _ => false
theorem isNone_rep {H : Hp} {w : W} {v : V} (r : RepW K H w v) : decide (v = .non) = isNone w := by
  cases w with
  | m a => cases (show v = .ref a from r); rfl
  | t n => cases (show v = .ty n from r); rfl
  | d x =>
    cases x <;> simp only [RepW, RepD] at r
    · subst r; rfl
    · subst r; rfl
    · subst r; rfl
    · subst r; rfl
    all_goals first
      | (obtain ⟨a, vs, e, _⟩ := r; subst e; rfl)
      | (obtain ⟨a, o, l, e, _⟩ := r; subst e; rfl)
def rdIsN (neg : Bool) (w : W) (w' : W) (M : MH) (Q : QD) : Prop := w' = .d .none ∧ Q (.d (.bool (xor neg (isNone w)))) M
theorem opd_isN : OpD K (fun x y H Q => y = .non ∧ Q (.bl (decide (x = .non))) H) (rdIsN false) := by
  intro x y H w w' M Qd Q r1 r2 m ⟨e, q⟩ k
  subst e
  simp only [RepW, RepD] at r2
  refine ⟨r2, k _ _ (.d (.bool (isNone w))) M (Kp.refl _) ?_ m (by simpa using q)⟩
  rw [isNone_rep r1]
  simp [RepW, RepD]
theorem opd_notN : OpD K (fun x y H Q => y = .non ∧ Q (.bl (!decide (x = .non))) H) (rdIsN true) := by
  intro x y H w w' M Qd Q r1 r2 m ⟨e, q⟩ k
  subst e
  simp only [RepW, RepD] at r2
  refine ⟨r2, k _ _ (.d (.bool (!isNone w))) M (Kp.refl _) ?_ m (by simpa using q)⟩
  rw [isNone_rep r1]
  simp [RepW, RepD]
end
end D
set_option Elab.async false
set_option linter.all false
set_option maxRecDepth 100000
set_option maxHeartbeats 4000000
namespace Rc
open PySem PySem.Spec PyProof.Rows L2 D
section
variable {α : Type} (nm : α → Str)
def rk (g : α → PyData) (L : List α) : List (Key × PyData) := L.map fun a => (.inr (nm a), g a)
def fd (L : List α) (n : Str) : Option α := L.find? fun a => decide (nm a = n)
def pt (L : List α) (z : α) : List α := match fd nm L (nm z) with
  | none => L ++ [z]
  | some _ => L.map fun y => if nm y = nm z then z else y
variable {nm}
theorem fd_cons (b : α) (L : List α) (n : Str) : fd nm (b :: L) n = if nm b = n then some b else fd nm L n := by
  by_cases e : nm b = n <;> simp [fd, List.find?_cons, e]
theorem fd_mem {L : List α} {n : Str} {x : α} (h : fd nm L n = some x) : x ∈ L ∧ nm x = n := by
  unfold fd at h
  have h1 := List.find?_some h
  exact ⟨List.mem_of_find?_eq_some h, by simpa using h1⟩
theorem fd_none {L : List α} {n : Str} (h : fd nm L n = none) : ∀ b ∈ L, nm b ≠ n := by
  unfold fd at h
  intro b hb e
  have := List.find?_eq_none.mp h b hb
  simp [e] at this
theorem dk_rk (g : α → PyData) (L : List α) : dataKV (rk nm g L) = L.map fun b => ((.inr (nm b) : Key), W.d (g b)) := by simp [dataKV, rk]
theorem tget_rk (g : α → PyData) : ∀ (L : List α) (n : Str), tget (dataKV (rk nm g L)) (.inr n) = (fd nm L n).map fun b => .d (g b) := by
  intro L n
  rw [dk_rk]
  induction L with
  | nil => rfl
  | cons b L ih =>
    rw [List.map_cons, tget_cons, fd_cons, ih]
    by_cases e : nm b = n
    · simp [e]
    · have e' : ¬ (Sum.inr (nm b) : Key) = .inr n := fun z => e (Sum.inr.inj z)
      simp [e, e']
theorem tput_rk (g : α → PyData) (L : List α) (z : α) {n : Str} (hn : nm z = n) : tput (dataKV (rk nm g L)) (.inr n) (.d (g z)) = dataKV (rk nm g (pt nm L z)) := by
  subst hn
  unfold tput
  rw [tget_any, tget_rk, dk_rk, dk_rk]
  unfold pt
  cases e : fd nm L (nm z) with
  | none => rw [if_neg (by simp)]; simp
  | some x =>
    rw [if_pos (by rfl), List.map_map, List.map_map]
    refine List.map_congr_left fun b _ => ?_
    by_cases e : nm b = nm z
    · simp [e]
    · have e' : ¬ (Sum.inr (nm b) : Key) = .inr (nm z) := fun z => e (Sum.inr.inj z)
      simp [e, e']
theorem rk_pt_same (g : α → PyData) (L : List α) (z : α) {x : α} (h : fd nm L (nm z) = some x) (hg : ∀ y ∈ L, nm y = nm z → g y = g z) : rk nm g (pt nm L z) = rk nm g L := by
  unfold rk pt
  rw [h]
  dsimp only
  rw [List.map_map]
  refine List.map_congr_left fun b hb => ?_
  by_cases e : nm b = nm z
  · simp [e, hg b hb e]
  · simp [e]
theorem pt_names (L : List α) (z : α) : (pt nm L z).map nm = match fd nm L (nm z) with | none => L.map nm ++ [nm z] | some _ => L.map nm := by
  unfold pt
  cases e : fd nm L (nm z) with
  | none => simp
  | some x =>
    dsimp only
    rw [List.map_map]
    refine List.map_congr_left fun b _ => ?_
    by_cases e : nm b = nm z
    · simp [e]
    · simp [e]
theorem pt_nd {L : List α} {z : α} (nd : (L.map nm).Nodup) : ((pt nm L z).map nm).Nodup := by
  rw [pt_names]
  cases e : fd nm L (nm z) with
  | some x => exact nd
  | none =>
    show (L.map nm ++ [nm z]).Nodup
    rw [List.nodup_append]
    refine ⟨nd, by simp, fun x hx y hy => ?_⟩
    simp at hy
    obtain ⟨b, hb, rfl⟩ := List.mem_map.mp hx
    rw [hy]
    exact fd_none e b hb
theorem pt_len (L : List α) (z : α) : (pt nm L z).length ≤ L.length + 1 := by
  unfold pt
  cases fd nm L (nm z) with
  | none => simp
  | some x => simp
theorem pt_mem {L : List α} {z y : α} (h : y ∈ pt nm L z) : y = z ∨ y ∈ L := by
  unfold pt at h
  cases e : fd nm L (nm z) with
  | none =>
    rw [e] at h
    rcases List.mem_append.mp h with h | h
    · exact .inr h
    · exact .inl (by simpa using h)
  | some x =>
    rw [e] at h
    obtain ⟨b, hb, eb⟩ := List.mem_map.mp h
    by_cases e : nm b = nm z
    · rw [if_pos e] at eb; exact .inl eb.symm
    · rw [if_neg e] at eb; exact .inr (eb ▸ hb)
theorem fd_pt (L : List α) (z : α) (n : Str) : fd nm (pt nm L z) n = if nm z = n then some z else fd nm L n := by
  unfold pt
  cases e : fd nm L (nm z) with
  | none =>
    by_cases q : nm z = n
    · rw [if_pos q, ← q]
      have : fd nm (L ++ [z]) (nm z) = some z := by
        unfold fd at e ⊢
        rw [List.find?_append, e]
        simp
      exact this
    · rw [if_neg q]
      unfold fd
      rw [List.find?_append]
      have : [z].find? (fun a => decide (nm a = n)) = none := by simp [q]
      rw [this]
      simp
  | some x =>
    dsimp only
    have main : ∀ (L : List α), (∃ y ∈ L, nm y = nm z) ∨ nm z ≠ n → fd nm (L.map fun y => if nm y = nm z then z else y) n = if nm z = n then some z else fd nm L n := by
      intro L
      induction L with
      | nil =>
        intro h
        rcases h with ⟨y, hy, _⟩ | h
        · cases hy
        · rw [if_neg h]; rfl
      | cons y L ih =>
        intro h
        rw [List.map_cons, fd_cons, fd_cons]
        by_cases q : nm y = nm z
        · rw [if_pos q]
          by_cases r : nm z = n
          · rw [if_pos r, if_pos r]
          · rw [if_neg r, if_neg r, if_neg (fun e => r (q ▸ e)), ih (.inr r), if_neg r]
        · rw [if_neg q]
          by_cases r : nm z = n
          · have ne : nm y ≠ n := fun e => q (e.trans r.symm)
            rw [if_neg ne, if_pos r, ih, if_pos r]
            rcases h with ⟨w, hw, e⟩ | h
            · rcases List.mem_cons.mp hw with rfl | hw
              · exact absurd e q
              · exact .inl ⟨w, hw, e⟩
            · exact .inr h
          · by_cases t : nm y = n
            · rw [if_pos t, if_neg r, if_pos t]
            · rw [if_neg t, if_neg r, if_neg t, ih (.inr r), if_neg r]
    exact main L (.inl ⟨x, fd_mem e⟩)
theorem fd_at {L : List α} (nd : (L.map nm).Nodup) {b : α} (h : b ∈ L) : fd nm L (nm b) = some b := by
  induction L with
  | nil => cases h
  | cons x L ih =>
    rw [List.map_cons, List.nodup_cons] at nd
    rw [fd_cons]
    rcases List.mem_cons.mp h with rfl | h
    · rw [if_pos rfl]
    · have : nm x ≠ nm b := fun e => nd.1 (List.mem_map.mpr ⟨b, h, e.symm⟩)
      rw [if_neg this]
      exact ih nd.2 h
theorem one_of {L : List α} (nd : (L.map nm).Nodup) {x y : α} (hx : x ∈ L) (hy : y ∈ L) (e : nm x = nm y) : x = y := by
  have h1 := fd_at nd hx
  have h2 := fd_at nd hy
  rw [e, h2] at h1
  exact (Option.some.inj h1).symm
end
end Rc
set_option Elab.async false
set_option linter.all false
set_option maxRecDepth 100000
set_option maxHeartbeats 4000000
namespace Rc
open PySem PySem.Spec PyProof.Rows L2 D
mutual
def okD : Nat → PyData → Bool
  | _, .none => true
  | _, .bool _ => true
  | _, .int i => decide (i.natAbs < 2 ^ 100)
  | _, .str z => ascB z
  | k + 1, .list ds => okA k ds
  | k + 1, .tuple ds => okA k ds
  | _, _ => false
def okA : Nat → List PyData → Bool
  | _, [] => true
  | k, d :: ds => okD k d && okA k ds
end
theorem okA_of {k : Nat} : ∀ {ds : List PyData}, (∀ d ∈ ds, okD k d = true) → okA k ds = true
  | [], _ => by simp [okA]
  | d :: ds, h => by
    simp only [okA, Bool.and_eq_true]
    exact ⟨h d (by simp), okA_of fun x hx => h x (by simp [hx])⟩
theorem asc_of_b {z : Str} (h : ascB z = true) : Asc z := asc_dec h
theorem strOk_asc {z : Str} (h : Asc z) : PyData.strOk z = true := by
  unfold PyData.strOk
  rw [Array.all_eq_true_iff_forall_mem]
  intro c hc
  exact decide_eq_true (by have := h c (by simpa using hc); omega)
theorem strOk_b {z : Str} (h : ascB z = true) : PyData.strOk z = true := strOk_asc (asc_of_b h)
mutual
theorem ok_fine : ∀ (k : Nat) (d : PyData), okD k d = true → fineD d = true
  | _, .none, _ => rfl
  | _, .bool _, _ => rfl
  | _, .int i, h => by
    cases ‹Nat› <;> simp only [okD, decide_eq_true_eq] at h <;> exact decide_eq_true (log2_small h)
  | _, .str z, h => by
    cases ‹Nat› <;> simp only [okD] at h <;> exact h
  | k + 1, .list ds, h => by simp only [okD] at h; simp only [fineD]; exact okA_fine k ds h
  | k + 1, .tuple ds, h => by simp only [okD] at h; simp only [fineD]; exact okA_fine k ds h
  | 0, .list ds, h => by simp [okD] at h
  | 0, .tuple ds, h => by simp [okD] at h
  | k, .dict kvs, h => by cases k <;> simp [okD] at h
theorem okA_fine : ∀ (k : Nat) (ds : List PyData), okA k ds = true → fineA ds = true
  | _, [], _ => by simp [fineA]
  | k, d :: ds, h => by
    simp only [okA, Bool.and_eq_true] at h
    simp only [fineA, ok_fine k d h.1, okA_fine k ds h.2, Bool.and_self]
end
mutual
theorem ok_lay : ∀ (k : Nat) (d : PyData), okD k d = true → PyData.canLay0 d = true
  | _, .none, _ => by simp [PyData.canLay0]
  | _, .bool _, _ => by simp [PyData.canLay0]
  | _, .int i, h => by simp [PyData.canLay0]
  | _, .str z, h => by
    cases ‹Nat› <;> simp only [okD] at h <;> simp [PyData.canLay0, strOk_b h]
  | k + 1, .list ds, h => by simp only [okD] at h; simp only [PyData.canLay0]; exact okA_lay k ds h
  | k + 1, .tuple ds, h => by simp only [okD] at h; simp only [PyData.canLay0]; exact okA_lay k ds h
  | 0, .list ds, h => by simp [okD] at h
  | 0, .tuple ds, h => by simp [okD] at h
  | k, .dict kvs, h => by cases k <;> simp [okD] at h
theorem okA_lay : ∀ (k : Nat) (ds : List PyData), okA k ds = true → PyData.canLayAll0 ds = true
  | _, [], _ => by simp [PyData.canLayAll0]
  | k, d :: ds, h => by
    simp only [okA, Bool.and_eq_true] at h
    simp only [PyData.canLayAll0, ok_lay k d h.1, okA_lay k ds h.2, Bool.and_self]
end
mutual
theorem ok_depth : ∀ (k : Nat) (d : PyData), okD k d = true → PyData.depth d ≤ k + 1
  | _, .none, _ => by simp [PyData.depth]
  | _, .bool _, _ => by simp [PyData.depth]
  | _, .int i, h => by simp [PyData.depth]
  | _, .str z, h => by simp [PyData.depth]
  | k + 1, .list ds, h => by simp only [okD] at h; have := okA_depth k ds h; simp only [PyData.depth]; omega
  | k + 1, .tuple ds, h => by simp only [okD] at h; have := okA_depth k ds h; simp only [PyData.depth]; omega
  | 0, .list ds, h => by simp [okD] at h
  | 0, .tuple ds, h => by simp [okD] at h
  | k, .dict kvs, h => by cases k <;> simp [okD] at h
theorem okA_depth : ∀ (k : Nat) (ds : List PyData), okA k ds = true → PyData.depthAll ds ≤ k + 1
  | _, [], _ => by simp [PyData.depthAll]
  | k, d :: ds, h => by
    simp only [okA, Bool.and_eq_true] at h
    have h1 := ok_depth k d h.1
    have h2 := okA_depth k ds h.2
    simp only [PyData.depthAll]
    omega
end
mutual
theorem ok_nod : ∀ (k : Nat) (d : PyData), okD k d = true → PyData.hasDict d = false
  | _, .none, _ => by simp [PyData.hasDict]
  | _, .bool _, _ => by simp [PyData.hasDict]
  | _, .int i, h => by simp [PyData.hasDict]
  | _, .str z, h => by simp [PyData.hasDict]
  | k + 1, .list ds, h => by simp only [okD] at h; simp only [PyData.hasDict]; exact okA_nod k ds h
  | k + 1, .tuple ds, h => by simp only [okD] at h; simp only [PyData.hasDict]; exact okA_nod k ds h
  | 0, .list ds, h => by simp [okD] at h
  | 0, .tuple ds, h => by simp [okD] at h
  | k, .dict kvs, h => by cases k <;> simp [okD] at h
theorem okA_nod : ∀ (k : Nat) (ds : List PyData), okA k ds = true → PyData.hasDictAll ds = false
  | _, [], _ => by simp [PyData.hasDictAll]
  | k, d :: ds, h => by
    simp only [okA, Bool.and_eq_true] at h
    simp only [PyData.hasDictAll, ok_nod k d h.1, okA_nod k ds h.2, Bool.or_self]
end
theorem eqOk_of {k : Nat} {d : PyData} (hk : k ≤ 50) (h : okD k d = true) : eqOk d = true := by
  have h1 := ok_lay k d h
  have h2 := ok_depth k d h
  have h3 := ok_nod k d h
  simp only [eqOk, SeqAt.shaped, h1, h3, Bool.true_and, Bool.not_false, Bool.and_true]
  exact decide_eq_true (by omega)
theorem eqOk2_of {k : Nat} {d d' : PyData} (hk : k ≤ 50) (h : okD k d = true) (h' : okD k d' = true) : eqOk2 d d' = true := by
  have h1 := eqOk_of hk h
  have h2 := eqOk_of hk h'
  cases d <;> cases d' <;> simp [eqOk2, h1, h2]
theorem refl_of {k : Nat} {d : PyData} (h : okD k d = true) : PyData.eqv d d = true := SeqAt.eqv_refl _ (ok_lay k d h)
theorem reprOk_of {k : Nat} {d : PyData} (hk : k ≤ 50) (h : okD k d = true) (hb : big d ≤ 1000000) : reprOk d = true :=
  repr_ok (ok_fine k d h) hb (by have := ok_depth k d h; omega) (ok_nod k d h)
theorem bigA_le {c : Nat} : ∀ {ds : List PyData}, (∀ d ∈ ds, big d ≤ c) → bigA ds ≤ ds.length * (c + 2)
  | [], _ => by simp [bigA]
  | d :: ds, h => by
    have h1 := h d (by simp)
    have h2 := bigA_le (ds := ds) fun x hx => h x (by simp [hx])
    simp only [bigA, List.length_cons]
    rw [Nat.add_mul]
    omega
theorem eqv_str' (x y : Str) : PyData.eqv (.str x) (.str y) = decide (x = y) := by
  rw [← str_dec]
  by_cases e : x = y
  · subst e; simp
  · simp [e]
theorem eqv_int' (x y : Int) : PyData.eqv (.int x) (.int y) = decide (x = y) := by
  rw [PyData.eqv]
  by_cases e : x = y
  · subst e; simp
  · simp [e]
theorem ne_M {M : MH} {a b : Addr} {o u : MO} (ha : M a = some o) (hb : M b = some u) (h : o ≠ u) : a ≠ b := fun e => h (by rw [e, hb] at ha; exact (Option.some.inj ha).symm)
theorem ne_new {M : MH} {a b : Addr} {o : MO} (ha : M a = some o) (hb : M b = none) : a ≠ b := fun e => by rw [e, hb] at ha; cases ha
theorem upd_get {M : MH} {a b : Addr} {o u : MO} (h : M a = some o) (hb : M b = none) : updM M b u a = some o := by rw [updM_ne (ne_new h hb)]; exact h
theorem upd_back {M : MH} {d : Addr} {x y : MO} (h : M d = some y) : updM (updM M d x) d y = M := by
  rw [updM_updM]
  funext q
  by_cases e : q = d
  · rw [e, updM_same, h]
  · rw [updM_ne e]
end Rc
set_option Elab.async false
set_option linter.all false
set_option maxRecDepth 100000
set_option maxHeartbeats 4000000
namespace Stc
open PySem PySem.Spec PyProof.Rows L2 D Rc
abbrev N_l_word : List Str := ["_law_bag_here", "_law_letters"]
def t_l_word (sp_l_take : SpD) : TSd :=
    dSeq (dAsg (dC (.d (.str "abcdefghijklmnopqrstuvwxyz"))) (gN 1)) <|
    dRet (dMS rdJoin (dC (.d (.str ""))) (dCons (dLC (dRng1 (dCons (dOp rdAdd (dC (.d (.int 1))) (dCall sp_l_take (dCons (dVar 0) (dCons (dC (.d (.int 8))) (dNil))))) (dNil))) (gN 0) (dYes) (dOp rdIx (dVar 1) (dCall sp_l_take (dCons (dVar 2) (dCons (dC (.d (.int 26))) (dNil))))) 1 [1, 0]) dNil))


abbrev N_l_stores : List Str := ["_law_bag_here", "_law_word_here", "_law_many", "_law_near", "_law_turn", "_law_found", "_law_k", "_law_other"]
def t_l_stores (sp_l_word sp_l_take : SpD) : TSd :=
    dSeq (dAsg (dCall sp_l_word (dCons (dVar 0) (dNil))) (gN 1)) <|
    dSeq (dAsg (dOp rdAdd (dC (.d (.int 2))) (dCall sp_l_take (dCons (dVar 0) (dCons (dC (.d (.int 3))) (dNil))))) (gN 2)) <|
    dSeq (dAsg (dCall sp_l_take (dCons (dVar 0) (dCons (dC (.d (.int 2))) (dNil)))) (gN 3)) <|
    dSeq (dAsg (dCall sp_l_take (dCons (dVar 0) (dCons (dC (.d (.int 26))) (dNil)))) (gN 4)) <|
    dSeq (dAsg (dLstM (dCons (dVar 1) (dNil))) (gN 5)) <|
    dSeq (dFor (dRng1 (dCons (dVar 2) (dNil))) (gN 6)
      (dSeq (dAsg (dOp rdAdd (dSl (dVar 1) (dNoPart) (dPart (dUn rdNeg (dC (.d (.int 1)))))) (dOp rdIx (dC (.d (.str "abcdefghijklmnopqrstuvwxyz"))) (dOp rdMod (dOp rdAdd (dVar 4) (dVar 6)) (dC (.d (.int 26)))))) (gN 7)) <|
      dSeq (dIf (dTest (dOp rdEqT (dVar 3) (dC (.d (.int 0)))))
        (dAsg (dCall sp_l_word (dCons (dVar 0) (dNil))) (gN 7))
        (dNext)) <|
      dIf (dTest (dOp (rdInL true) (dVar 7) (dVar 5)))
        (dDrop (dAppend (dVar 5) (dVar 7)))
        (dNext))) <|
    dSeq (dIf (dTest (dOp rdEqT (dCB rdLen (dCons (dVar 5) (dNil))) (dC (.d (.int 1)))))
      (dDrop (dAppend (dVar 5) (dOp rdIx (dLst (dCons (dC (.d (.str "store"))) (dCons (dC (.d (.str "shelf"))) (dNil)))) (dCB rdInt (dCons (dOp rdEqT (dVar 1) (dC (.d (.str "store")))) (dNil))))))
      (dNext)) <|
    dRet (dSeal (dVar 5))


def Wd (z : Str) : Prop := z.length ≤ 9 ∧ Asc z
def sp_l_word : SpD := fun ws M Q => ∃ p : Addr, ws = [.m p] ∧ Bag M p ∧ ∀ (z : Str) M', (z.length ≤ 8 ∧ Asc z) → Bag M' p → (∀ q, q ≠ p → M' q = M q) → Q (.d (.str z)) M'
theorem len_l_word : ∀ ws M Q, sp_l_word ws M Q → ws.length = 1 := by rintro ws M Q ⟨p, rfl, _⟩; rfl
theorem drawn {z : Str} (hz : Asc z) (hz0 : 0 < z.length) (hz1 : z.length ≤ 1000) {p : Addr} {M M1 : MH} {ws : List W} {fr : List Nat} {τ : DS} {te : TD} {k : Nat} {Q : List PyData → MH → Prop} (hk : ws.length = k) (hs : k ≤ 1000) (b1 : Bag M1 p) (f1 : ∀ q, q ≠ p → M1 q = M q)
    (hte : ∀ w ∈ ws, ∀ (M' : MH), Bag M' p → ∀ R : W → MH → Prop, (∀ (r : Int) M'' (c : Nat), c ∈ z.cps.toList → Bag M'' p → (∀ q, q ≠ p → M'' q = M' q) → R (.d (.str ⟨#[c]⟩)) M'') → te (some w :: fr.map fun j => (τ[j]?).getD none) M' R)
    (q : ∀ (ys : List Str) M', (∀ y ∈ ys, y.length ≤ 1 ∧ Asc y) → ys.length ≤ k → Bag M' p → (∀ q, q ≠ p → M' q = M q) → Q (ys.map PyData.str) M') :
    ∃ P : Nat → List PyData → DS → MH → Prop, P 0 [] (lcSD 1 fr τ) M1 ∧
      (∀ i w acc τ M, ws[i]? = some w → P i acc τ M → acc.length < sizeLine ∧ gN 0 w τ M fun τ2 M2 => dYes τ2 M2 fun b M3 => if b = true then te τ2 M3 fun y M4 => ∃ d, y = .d d ∧ P (i + 1) (acc ++ [d]) τ2 M4 else P (i + 1) acc τ2 M3) ∧
      ∀ acc τ M, P ws.length acc τ M → Q acc M := by
  refine lc_inv (fun M' => Bag M' p ∧ ∀ q, q ≠ p → M' q = M q) (Tx 1) (by have := s16; omega) ⟨b1, f1⟩ (fun w hw M' hj P' hp _ => ?_) (fun acc M2 hj hg hlen => ?_)
  · exact hte w hw M' hj.1 _ fun r M'' c hc b f => ⟨_, rfl, hp _ _ ⟨_, rfl, Nat.le_refl _, asc_one hz hc⟩ ⟨b, fun q hq => (f q hq).trans (hj.2 q hq)⟩⟩
  · obtain ⟨ys, e, hy⟩ := tx_list hg
    subst e
    exact q ys M2 hy (by simpa [hk] using hlen) hj.1 hj.2
theorem join1 {ys : List Str} (hy : ∀ y ∈ ys, y.length ≤ 1 ∧ Asc y) : Asc (Txt.join "" ys) ∧ (Txt.join "" ys).length ≤ ys.length := by
  have hj1 := join_asc (sep := ("" : Str)) (asc_dec (by decide +kernel)) fun y hy' => (hy y hy').2
  have e0 : ("" : Str).length = 0 := by decide +kernel
  have hsum := sum_le (fun y hy' => (hy y hy').1) 0
  simp only [Nat.zero_add, e0] at hsum hj1
  exact ⟨hj1.1, by omega⟩
theorem read_l_word : ∀ ws M Q, sp_l_word ws M Q → t_l_word sp_l_take { nx := fun _ M' => Q (.d .none) M', rt := Q } (startD N_l_word ws) M := by
  rintro ws M Q ⟨p, rfl, hb, k⟩
  refine ⟨⟨_, rfl⟩, _, rfl, p, 8, rfl, hb, by decide, by decide, fun n M1 n0 n1 b1 f1 => ?_⟩
  refine .inl ⟨_, _, rfl, rfl, 1 + n, rfl, by omega, by omega, ?_⟩
  dsimp only
  refine drawn (z := alphaS) alphaA (by rw [alphaL]; decide) (by rw [alphaL]; decide) (k := (1 + n).toNat) ?_ (by omega) b1 f1 (fun w hw M' b R h => ?_) (fun ys M' hy hlen b f => ?_)
  · simp only [rangeW, List.length_map, List.length_range]
  · refine ⟨_, rfl, _, rfl, p, 26, rfl, b, by decide, by decide, fun r M3 r0 r1 b3 f3 => ?_⟩
    obtain ⟨c, hc, hm⟩ := ix_str_at (M := M3) (z := alphaS) r0 (by rw [alphaL]; exact r1)
    exact ⟨r, _, rfl, hc, by decide +kernel, h r M3 c hm b3 f3⟩
  · obtain ⟨ha, hl⟩ := join1 hy
    have e0 : ("" : Str).length = 0 := by decide +kernel
    have hsum := sum_le (fun y hy' => (hy y hy').1) 0
    refine ⟨"", ys, rfl, rfl, ?_, k _ M' ⟨by omega, ha⟩ b f⟩
    rw [e0]
    simp only [Nat.mul_zero, Nat.zero_add] at hsum ⊢
    have := s16
    omega
theorem ix_at {M : MH} {ds : List PyData} {r : Int} (h0 : 0 ≤ r) (h1 : r < ds.length) : ∃ d, ixW M (.d (.list ds)) r = some (.d d) ∧ d ∈ ds := by
  have hn : r.toNat < ds.length := by omega
  refine ⟨ds[r.toNat], ?_, List.getElem_mem hn⟩
  simp only [ixW, atI, ixN_nat h0 h1, Option.bind_some, List.getElem?_eq_getElem hn, Option.map_some]
theorem ix_str_in {M : MH} {zs : List Str} {r : Int} (h0 : 0 ≤ r) (h1 : r < zs.length) : ∃ z, ixW M (.d (.list (zs.map PyData.str))) r = some (.d (.str z)) ∧ z ∈ zs := by
  obtain ⟨d, e, hd⟩ := ix_at (M := M) (ds := zs.map PyData.str) h0 (by simpa using h1)
  obtain ⟨i, hi, rfl⟩ := List.mem_map.mp hd
  exact ⟨i, e, hi⟩
def Sts (zs : List Str) : Prop := 2 ≤ zs.length ∧ zs.length ≤ 10 ∧ (∀ z ∈ zs, Wd z) ∧ zs.Nodup
def strsD (zs : List Str) : PyData := .list (zs.map PyData.str)
theorem len_m {M : MH} {a : Addr} {ws : List W} (h : M a = some (.lst ws)) : lenW M (.m a) = some ws.length := by simp only [lenW, h]
theorem bag_at {M : MH} {p : Addr} (h : Bag M p) : ∃ o, M p = some o := by obtain ⟨a, b, c, ns, e, _⟩ := h; exact ⟨_, e⟩
theorem bag_keep {M M' : MH} {p : Addr} (h : Bag M p) (e : M' p = M p) : Bag M' p := by
  obtain ⟨a, b, c, ns, h1, h2⟩ := h
  exact ⟨a, b, c, ns, e.trans h1, h2⟩
def sp_l_stores : SpD := fun ws M Q => ∃ p : Addr, ws = [.m p] ∧ Bag M p ∧ ∀ (zs : List Str) M', Sts zs → Bag M' p → (∀ q, q ≠ p → M' q = M q) → Q (.d (strsD zs)) M'
theorem len_l_stores : ∀ ws M Q, sp_l_stores ws M Q → ws.length = 1 := by rintro ws M Q ⟨p, rfl, _⟩; rfl
theorem strsW_snoc (zs : List Str) (z : Str) : strsW zs ++ [.d (.str z)] = strsW (zs ++ [z]) := by simp [strsW]
theorem read_l_stores : ∀ ws M Q, sp_l_stores ws M Q → t_l_stores sp_l_word sp_l_take { nx := fun _ M' => Q (.d .none) M', rt := Q } (startD N_l_stores ws) M := by
  rintro ws M Q ⟨p, rfl, hb, k⟩
  have s16' := s16
  refine ⟨_, rfl, p, rfl, hb, fun z0 M1 hz0 b1 f1 => ?_⟩
  refine ⟨_, rfl, p, 3, rfl, b1, by decide, by decide, fun n2 M2 n20 n21 b2 f2 => .inl ⟨_, _, rfl, rfl, ?_⟩⟩
  refine ⟨_, rfl, p, 2, rfl, b2, by decide, by decide, fun near M3 r0 r1 b3 f3 => ?_⟩
  refine ⟨_, rfl, p, 26, rfl, b3, by decide, by decide, fun turn M4 t0 t1 b4 f4 => ?_⟩
  refine ⟨_, rfl, few (by simp), fun a ha => ?_⟩
  obtain ⟨ob, hob⟩ := bag_at b4
  have pa : p ≠ a := fun e => by rw [e, ha] at hob; cases hob
  have fr4 : ∀ q, q ≠ p → M4 q = M q := fun q hq => by rw [f4 q hq, f3 q hq, f2 q hq, f1 q hq]
  have haM : M a = none := by rw [← fr4 a pa.symm]; exact ha
  refine ⟨_, rfl, 2 + n2, rfl, by omega, by omega, ?_⟩
  dsimp only
  let I : MH → List Str → Prop := fun M' zs => M' a = some (.lst (strsW zs)) ∧ Bag M' p ∧ (∀ q, q ≠ p → q ≠ a → M' q = M q) ∧ zs.head? = some z0 ∧ (∀ z ∈ zs, Wd z) ∧ zs.Nodup
  refine ⟨fun i τ M' => ∃ zs x6 x7, I M' zs ∧ zs.length ≤ i + 1 ∧ τ = [some (.m p), some (.d (.str z0)), some (.d (.int (2 + n2))), some (.d (.int near)), some (.d (.int turn)), some (.m a), x6, x7], ?_, ?_, ?_⟩
  · refine ⟨[z0], _, _, ⟨updM_same, bag_keep b4 (updM_ne pa), fun q h1 h2 => by rw [updM_ne h2]; exact fr4 q h1, rfl, fun z hz => ?_, by simp⟩, by simp, rfl⟩
    simp at hz
    rw [hz]
    exact ⟨by have := hz0.1; omega, hz0.2⟩
  · rintro i w τ M' hw ⟨zs, x6, x7, ⟨h1, h2, h3, h4, h5, h6⟩, hlen, rfl⟩
    obtain ⟨j, rfl, hj⟩ : ∃ j : Nat, w = .d (.int (0 + (j : Int))) ∧ j < (2 + n2).toNat := by
      have hm := List.mem_of_getElem? hw
      simp only [rangeW, List.mem_map, List.mem_range] at hm
      obtain ⟨j, hj, e⟩ := hm
      exact ⟨j, e.symm, hj⟩
    have hi : i < (2 + n2).toNat := by
      have := (List.getElem?_eq_some_iff.mp hw).1
      simpa [rangeW] using this
    have hfit : fitW (.d (.str z0)) = true := decide_eq_true (by have := hz0.1; omega)
    -- what the loop's turn does with the other word
    have rest : ∀ (z : Str) (M5 : MH), Wd z → M5 a = some (.lst (strsW zs)) → Bag M5 p → (∀ q, q ≠ p → q ≠ a → M5 q = M q) →
        dIf (dTest (dOp (rdInL true) (dVar 7) (dVar 5))) (dDrop (dAppend (dVar 5) (dVar 7))) (dNext)
          { nx := fun τ M' => ∃ zs x6 x7, I M' zs ∧ zs.length ≤ i + 1 + 1 ∧ τ = [some (.m p), some (.d (.str z0)), some (.d (.int (2 + n2))), some (.d (.int near)), some (.d (.int turn)), some (.m a), x6, x7], rt := Q,
            bk := fun τ M' => (dSeq (dIf (dTest (dOp rdEqT (dCB rdLen (dCons (dVar 5) (dNil))) (dC (.d (.int 1)))))
              (dDrop (dAppend (dVar 5) (dOp rdIx (dLst (dCons (dC (.d (.str "store"))) (dCons (dC (.d (.str "shelf"))) (dNil)))) (dCB rdInt (dCons (dOp rdEqT (dVar 1) (dC (.d (.str "store")))) (dNil))))))
              (dNext)) <| dRet (dSeal (dVar 5))) { nx := fun _ M' => Q (.d .none) M', rt := Q } τ M',
            ct := fun τ M' => ∃ zs x6 x7, I M' zs ∧ zs.length ≤ i + 1 + 1 ∧ τ = [some (.m p), some (.d (.str z0)), some (.d (.int (2 + n2))), some (.d (.int near)), some (.d (.int turn)), some (.m a), x6, x7] }
          [some (.m p), some (.d (.str z0)), some (.d (.int (2 + n2))), some (.d (.int near)), some (.d (.int turn)), some (.m a), some (.d (.int (0 + (j : Int)))), some (.d (.str z))] M5 := by
      intro z M5 hz g1 g2 g3
      refine ⟨_, rfl, _, rfl, z, zs, rfl, .m g1, _, rfl, ?_⟩
      refine ite_b (fun hin => ?_) (fun hin => ?_)
      · have hnot : z ∉ zs := by simpa using hin
        refine ⟨_, rfl, a, _, rfl, g1, _, rfl, _, g1, by simp only [strsW, List.length_map]; omega, ?_⟩
        refine ⟨zs ++ [z], _, _, ⟨by rw [updM_same, strsW_snoc], bag_keep g2 (updM_ne pa), fun q q1 q2 => by rw [updM_ne q2]; exact g3 q q1 q2, ?_, fun y hy => ?_, ?_⟩, by rw [List.length_append, List.length_singleton]; omega, rfl⟩
        · cases zs with
          | nil => cases h4
          | cons y ys => exact h4
        · rcases List.mem_append.mp hy with h | h
          · exact h5 y h
          · simp at h; rw [h]; exact hz
        · rw [List.nodup_append]
          refine ⟨h6, by simp, fun y hy c hc => ?_⟩
          simp at hc
          rw [hc]
          exact fun e => hnot (e ▸ hy)
      · exact ⟨zs, _, _, ⟨g1, g2, g3, h4, h5, h6⟩, by omega, rfl⟩
    refine ⟨_, rfl, _, rfl, _, rfl, _, rfl, hfit, ?_⟩
    have h26 : 0 ≤ (turn + (0 + (j : Int))) % 26 ∧ (turn + (0 + (j : Int))) % 26 < 26 := ⟨Int.emod_nonneg _ (by decide), Int.emod_lt_of_pos _ (by decide)⟩
    obtain ⟨c, hc, hm⟩ := ix_str_at (M := M') (z := alphaS) h26.1 (by rw [alphaL]; exact h26.2)
    have hl1 := Txt.slice_le z0 none (some (-1))
    have hc1 : (⟨#[c]⟩ : Str).length = 1 := rfl
    refine ⟨_, rfl, _, rfl, .inl ⟨_, _, rfl, rfl, _, _, rfl, rfl, (by show (0 : Int) < 26; decide), _, _, rfl, hc, by decide +kernel, .inr ⟨_, _, rfl, rfl, by have := hz0.1; omega, ?_⟩⟩⟩
    refine ⟨_, rfl, _, _, .d, .d, rfl, _, rfl, ?_⟩
    refine ite_b (fun _ => ?_) (fun _ => ?_)
    · refine ⟨_, rfl, p, rfl, h2, fun z M5 hz b5 f5 => ?_⟩
      exact rest z M5 ⟨by have := hz.1; omega, hz.2⟩ (by rw [f5 a pa.symm]; exact h1) b5 fun q q1 q2 => by rw [f5 q q1]; exact h3 q q1 q2
    · refine rest _ M' ⟨?_, asc_app (asc_slice hz0.2 _ _) (asc_one alphaA hm)⟩ h1 h2 h3
      rw [len_app]
      have := hz0.1
      omega
  · rintro τ M' ⟨zs, x6, x7, ⟨h1, h2, h3, h4, h5, h6⟩, hlen, rfl⟩
    simp only [rangeW, List.length_map, List.length_range] at hlen
    have fin : ∀ (zs : List Str) M', M' a = some (.lst (strsW zs)) → Bag M' p → (∀ q, q ≠ p → q ≠ a → M' q = M q) → Sts zs → dRet (dSeal (dVar 5)) { nx := fun _ M' => Q (.d .none) M', rt := Q } [some (.m p), some (.d (.str z0)), some (.d (.int (2 + n2))), some (.d (.int near)), some (.d (.int turn)), some (.m a), x6, x7] M' := by
      intro zs M' g1 g2 g3 g4
      refine ⟨_, rfl, a, zs.map PyData.str, rfl, ?_, ?_⟩
      · rw [g1]; simp [strsW]
      · refine k zs _ g4 (bag_keep g2 (delM_ne pa)) fun q hq => ?_
        by_cases e : q = a
        · rw [e, haM]; simp [delM]
        · rw [delM_ne e]; exact g3 q hq e
    refine ⟨_, rfl, _, _, rfl, len_m h1, rfl, _, _, .d, .d, rfl, _, rfl, ?_⟩
    have hpos : 1 ≤ zs.length := by
      cases zs with
      | nil => cases h4
      | cons y ys => simp
    refine ite_b (fun h => ?_) (fun h => ?_)
    · have hl1 : zs.length = 1 := by
        rw [eqv_int'] at h
        have := of_decide_eq_true h
        simp only [strsW, List.length_map] at this
        omega
      have hone : zs = [z0] := by
        match zs, hl1, h4 with
        | [y], _, h4 =>
          have : y = z0 := by simpa using h4
          rw [this]
      subst hone
      refine ⟨_, rfl, a, _, rfl, h1, _, rfl, few (by simp), _, rfl, _, _, .d, .d, rfl, .inr ⟨_, rfl, ?_⟩⟩
      rw [eqv_str']
      have two : ∀ y : Str, Wd y → y ≠ z0 → ∀ M2, M2 = updM M' a (.lst (strsW [z0] ++ [.d (.str y)])) → dRet (dSeal (dVar 5)) { nx := fun _ M' => Q (.d .none) M', rt := Q } [some (.m p), some (.d (.str z0)), some (.d (.int (2 + n2))), some (.d (.int near)), some (.d (.int turn)), some (.m a), x6, x7] M2 := by
        rintro y hy hne M2 rfl
        refine fin [z0, y] _ (by rw [updM_same]; rfl) (bag_keep h2 (updM_ne pa)) (fun q q1 q2 => by rw [updM_ne q2]; exact h3 q q1 q2) ⟨by simp, by simp, fun z hz => ?_, ?_⟩
        · simp at hz
          rcases hz with rfl | rfl
          · exact ⟨by have := hz0.1; omega, hz0.2⟩
          · exact hy
        · simp [Ne.symm hne]
      by_cases e : z0 = ("store" : Str)
      · rw [decide_eq_true e]
        refine ⟨1, _, rfl, rfl, rfl, _, h1, by simp only [strsW, List.length_map, List.length_singleton]; omega, ?_⟩
        exact two _ ⟨by decide +kernel, asc_dec (by decide +kernel)⟩ (by rw [e]; decide +kernel) _ rfl
      · rw [decide_eq_false e]
        refine ⟨0, _, rfl, rfl, rfl, _, h1, by simp only [strsW, List.length_map, List.length_singleton]; omega, ?_⟩
        exact two _ ⟨by decide +kernel, asc_dec (by decide +kernel)⟩ (fun z => e z.symm) _ rfl
    · refine fin zs M' h1 h2 h3 ⟨?_, by omega, h5, h6⟩
      rw [eqv_int'] at h
      have := of_decide_eq_false h
      simp only [strsW, List.length_map] at this
      omega
end Stc
set_option Elab.async false
set_option linter.all false
namespace D
theorem len_0 {us : List Value} (h : us.length = 0) : us = [] := by
  exact List.eq_nil_of_length_eq_zero h
theorem len_1 {us : List Value} (h : us.length = 1) : ∃ a1 : Value, us = [a1] := by
  cases us with
  | nil => simp at h
  | cons a r =>
    have e : r = [] := len_0 (by simpa using h)
    subst e
    exact ⟨a, rfl⟩
theorem len_2 {us : List Value} (h : us.length = 2) : ∃ a1 a2 : Value, us = [a1, a2] := by
  cases us with
  | nil => simp at h
  | cons a r =>
    obtain ⟨b1, e⟩ := len_1 (us := r) (by simpa using h)
    subst e
    exact ⟨a, b1, rfl⟩
theorem len_3 {us : List Value} (h : us.length = 3) : ∃ a1 a2 a3 : Value, us = [a1, a2, a3] := by
  cases us with
  | nil => simp at h
  | cons a r =>
    obtain ⟨b1, b2, e⟩ := len_2 (us := r) (by simpa using h)
    subst e
    exact ⟨a, b1, b2, rfl⟩
theorem len_4 {us : List Value} (h : us.length = 4) : ∃ a1 a2 a3 a4 : Value, us = [a1, a2, a3, a4] := by
  cases us with
  | nil => simp at h
  | cons a r =>
    obtain ⟨b1, b2, b3, e⟩ := len_3 (us := r) (by simpa using h)
    subst e
    exact ⟨a, b1, b2, b3, rfl⟩
end D
set_option Elab.async false
set_option linter.all false
set_option maxRecDepth 100000
set_option maxHeartbeats 4000000
namespace D
open PySem PySem.Spec PyProof.Rows L2
section
variable {X : Cx} {K : PySem.W.Frag}
theorem Abs.back {H : Hp} {σ : St} {τ : DS} {M : MH} {a : Addr} {o : Obj} {l : List (Key × V)} {kvs : List (Key × W)} (h : H a = some (.frz o (.frz o (.dK l)))) (A : Abs K H σ τ M) (e : M a = some (.fdic kvs)) : Abs K (upd H a (.dK l)) σ τ (updM M a (.dic kvs)) :=
  ⟨A.len, fun i w q => let ⟨v, q1, r⟩ := A.val i w q; ⟨v, q1, RepW.back h r⟩, MAbs.back h A.mem e⟩
theorem is_bool_gen {M : Model} {A : Around} {E : Value → Shared → Prop} {s : Shared} {Q : Value → Shared → Prop} {c b : Bool} (h : Q (.bool (Value.bool c == .bool b)) s) : wpAny M A (compareOp .Is (.bool c) (.bool b)) Q E s := wpAny_pure h
theorem isnot_bool_gen {M : Model} {A : Around} {E : Value → Shared → Prop} {s : Shared} {Q : Value → Shared → Prop} {c b : Bool} (h : Q (.bool (!(Value.bool c == .bool b))) s) : wpAny M A (compareOp .IsNot (.bool c) (.bool b)) Q E s := wpAny_pure h
def rIsB (neg : Bool) : R2 := fun x y H Q => ∃ b c, x = .bl c ∧ y = .bl b ∧ Q (.bl (xor neg (c == b))) H
theorem op_isB : OpR X (compareOp .Is) (rIsB false) := by
  intro pins s σ H x y v u Q I rx ry h
  obtain ⟨b, c, rfl, rfl, q⟩ := h
  cases rx
  cases ry
  refine is_bool_gen (fin_bl I q ?_)
  cases b <;> cases c <;> rfl
theorem op_notB : OpR X (compareOp .IsNot) (rIsB true) := by
  intro pins s σ H x y v u Q I rx ry h
  obtain ⟨b, c, rfl, rfl, q⟩ := h
  cases rx
  cases ry
  refine isnot_bool_gen (fin_bl I q ?_)
  cases b <;> cases c <;> rfl
def rdIsB (neg : Bool) (w w' : W) (M : MH) (Q : QD) : Prop := ∃ b c, w = .d (.bool c) ∧ w' = .d (.bool b) ∧ Q (.d (.bool (xor neg (c == b)))) M
theorem opd_isB {neg : Bool} : OpD K (rIsB neg) (rdIsB neg) := by
  intro x y H w w' M Qd Q r1 r2 m ⟨b, c, e1, e2, q⟩ k
  subst e1 e2
  simp only [RepW, RepD] at r1 r2
  exact ⟨b, c, r1, r2, k _ _ (.d (.bool _)) M (Kp.refl _) (by simp [RepW, RepD]) m q⟩
end
namespace Q
section
variable {X : Cx} {pos : Pos}
end
end Q
end D
set_option Elab.async false
set_option linter.all false
set_option maxRecDepth 100000
set_option maxHeartbeats 4000000
namespace XO
open PySem PySem.Spec PyProof.Rows PySem.W Builtin.ObjectAttr
def tailB : List Value := [.type "ValueError", .type "Exception", .type "BaseException", .type "object"]
def refsThen : List Value → Bool
  | .ref _ :: r => refsThen r
  | l => l == tailB
theorem refs_nil {l : List Value} (h : refsThen l = true) : l.isEmpty = false := by
  cases l with
  | nil => exact absurd h (by decide)
  | cons _ _ => rfl
theorem refs_cases {l : List Value} (h : refsThen l = true) : (∃ a r, l = .ref a :: r ∧ refsThen r = true) ∨ l = tailB := by
  cases l with
  | nil => exact absurd h (by decide)
  | cons v r =>
    cases v <;> first | exact .inl ⟨_, _, rfl, h⟩ | exact .inr (eq_of_beq (by simpa only [refsThen] using h))
theorem refs_has (T : String) (hT : tailB.contains (.type T) = true) : ∀ {l : List Value}, refsThen l = true → l.contains (.type T) = true := by
  intro l
  induction l with
  | nil => intro h; exact absurd h (by decide)
  | cons v r ih =>
    intro h
    rcases refs_cases h with ⟨a, r', e, q⟩ | e
    · cases e
      rw [List.contains_cons, ih q, Bool.or_true]
    · rw [e]; exact hT
theorem refs_passes (self : Value) : ∀ {l : List Value}, refsThen l = true → refuseLoop self "__setattr__" l = pure () := by
  intro l
  induction l with
  | nil => intro h; exact absurd h (by decide)
  | cons v r ih =>
    intro h
    rcases refs_cases h with ⟨a, r', e, q⟩ | e
    · cases e
      rw [refuseLoop_ref]; exact ih q
    · rw [e]; exact PySem.F.store_ValueError.passes self
def xcls (K : Frag) (C : Addr) : Bool := (clsIn K C).any fun cd => cd.hasDict && refsThen cd.mro
theorem xcls_of {K : Frag} {C : Addr} (h : xcls K C = true) : ∃ cd, clsIn K C = some cd ∧ cd.hasDict = true ∧ refsThen cd.mro = true := by
  obtain ⟨cd, e, q⟩ := any_some h
  simp only [Bool.and_eq_true] at q
  exact ⟨cd, e, q.1, q.2⟩
section
variable {prog : Program} {w : World} {A : Around} {E : Value → Shared → Prop} {s : Shared} {K : Frag} {x C : Addr} {name : Str} {v : Value}
theorem xsub {M : Model} {h : Heap} {ox : Obj} {od : Option Obj} (X : K.In h) (c : xcls K C = true) (I : PySem.W.InstAt h x ox C od) {T : String} (hT : tailB.contains (.type T) = true) : Looks M h (isInstance (.ref x) (.type T)) true := by
  obtain ⟨cd, hc, _, hm⟩ := xcls_of c
  refine I.type.andThen (looks_mroIn X ?_)
  unfold mroIn
  rw [hc, Option.bind_some, if_neg (by rw [refs_nil hm]; decide), refs_has T hT hm]
theorem osaX {R : Result → Shared → Prop} {ox : Obj} {od : Option Obj} {tk : Tok} (X : K.In s.heap) (I : PySem.W.InstAt s.heap x ox C od) (c : xcls K C = true) (na : findIn K (.ref C) name = some none)
    (h : ∀ b, wpAny (model prog w) A.in1 (storeInOwnDict (.ref x) (.ref C) (.str name tk) name v b)
      (fun fin s' => match fin with | .done f => R (.ok f) s' | .again c' => c'.quiet = true ∧ codeAny (model prog w) A c' R s') (fun e s' => R (.error e) s') s) :
    codeAny (model prog w) A (.call (.builtin "object.__setattr__") ⟨[.ref x, .str name tk, v], []⟩) R s := by
  obtain ⟨cd, hc, _, hm⟩ := xcls_of c
  have S := PySem.F.store_object
  refine codeAny_call_builtin S.slot.plain S.entry (@check_slot (model prog w) _ _ s "object.__setattr__" "object" "__setattr__" (.ref x) [.str name tk, v] [] _ S.kind S.split (xsub X c I (by decide)) (S.args (.ref x) (.str name tk) v) ?_)
  rw [osa_eq, refuse_eq]
  have hm' : Looks (model prog w) s.heap (mroOf (.ref C)) cd.mro := (looks_clsIn X hc).andThen .now
  refine wpAny_bind (wpAny_bind (I.type.here (wpAny_bind (hm'.here ?_))))
  rw [refs_passes _ hm]
  refine wpAny_pure ?_
  exact wpAny_bind (I.type.here (wpAny_bind ((looks_findIn X na).here (wpAny_bind (wpAny_pure (h _))))))
theorem xset0 {Q : Unit → Shared → Prop} {vs : Array Value} {sl : Array (Option Value)} (X : K.In s.heap) (c : xcls K C = true) (sa : findIn K (.ref C) "__setattr__" = some (some (.builtin "object.__setattr__")))
    (na : findIn K (.ref C) name = some none) (hx : s.heap.get? x = some ⟨.ref C, none, .fields vs, sl⟩)
    (h : ∀ h' tk dx, s.heap.objs.size ≤ dx → dx ≠ x → h'.get? x = some ⟨.ref C, some dx, .fields vs, sl⟩ → h'.Ns1 dx (fun y => if y = name then some v else none) → (∀ b o, b ≠ x → s.heap.get? b = some o → h'.get? b = some o) → Q () { s with heap := h', toks := tk }) :
    wpAny (model prog w) A (setAttr (.ref x) name v) Q E s := by
  have I : PySem.W.InstAt s.heap x ⟨.ref C, none, .fields vs, sl⟩ C none := ⟨hx, rfl, rfl, True.intro⟩
  refine set_plain X I sa (osaX (s := { s with toks := s.toks + 1 }) X I c na fun b => ?_)
  obtain ⟨cd, hc, hd, _⟩ := xcls_of c
  refine wpAny_bind (wpAny_pure (wpAny_bind (wpAny_bind (wpAny_loadPart hx (wpAny_bind (PySem.W.Looks.here (s := { s with toks := s.toks + 1 }) (looks_clsIn X hc) ?_))))))
  rw [hd]
  have lx : x < s.heap.objs.size := Heap.lt_size hx
  have ne : s.heap.objs.size ≠ x := Nat.ne_of_gt lx
  refine wpAny_bind (wpAny_alloc' (wpAny_bind (wpAny_update' (Heap.get?_push_of_some _ hx) (wpAny_pure ?_))))
  have e1 : ((s.heap.push { cls := .type "dict", data := .dict #[] }).update x fun o => { o with dict := some s.heap.objs.size }).get? s.heap.objs.size = some { cls := .type "dict", data := .dict #[] } :=
    (Heap.get?_update_ne _ _ _ _ ne).trans (Heap.get?_push_at rfl rfl)
  have e2 : ((s.heap.push { cls := .type "dict", data := .dict #[] }).update x fun o => { o with dict := some s.heap.objs.size }).get? x = some ⟨.ref C, some s.heap.objs.size, .fields vs, sl⟩ :=
    Heap.get?_update_self _ (Heap.get?_push_of_some _ hx) rfl
  have e3 : ((s.heap.push { cls := .type "dict", data := .dict #[] }).update x fun o => { o with dict := some s.heap.objs.size }).Ns s.heap.objs.size (fun _ => none) := ⟨_, #[], _, e1, rfl, fun _ z => absurd z (by simp), fun _ => rfl⟩
  refine wpAny_bind (wpAny_pure (wpAny_bind (wpAny_nsSet1 (Heap.Ns1.of_empty e3) fun h2 n2 sb => ?_)))
  obtain ⟨oD, esD, epD, g1, g2, g3⟩ := n2.count (PySem.Within.cons name v PySem.Within.nil)
  refine wpAny_bind (wpAny_lookBehind g1 (by rw [g2]; exact pastItsLine_dict (Nat.le_trans g3 (by rw [List.length_cons, List.length_nil, sizeLine_eq]; omega))) (wpAny_pure ?_))
  exact h h2 _ _ (Nat.le_refl _) ne ((sb.2 x (Ne.symm ne)).trans e2) n2 fun b o hb z => (sb.2 b (Nat.ne_of_lt (Heap.lt_size z))).trans ((Heap.get?_update_ne _ _ _ _ hb).trans (Heap.get?_push_of_some _ z))
end
end XO
namespace XO
open PySem PySem.Spec PyProof.Rows PySem.W Builtin.ObjectAttr
section
variable {prog : Program} {w : World} {A : Around} {E : Value → Shared → Prop} {s : Shared} {K : Frag} {x C : Addr} {name : Str} {v : Value} {ox : Obj} {od : Option Obj}
theorem ga_kind : builtinKind "BaseException.__getattribute__" = some .slot := by decide +kernel
theorem ga_split : splitId "BaseException.__getattribute__" = some ("BaseException", "__getattribute__") := by decide +kernel
structure XC (K : Frag) (C : Addr) : Prop where
  x : xcls K C = true
  sa : findIn K (.ref C) "__setattr__" = some (some (.builtin "object.__setattr__"))
  ga : findIn K (.ref C) "__getattribute__" = some (some (.builtin "BaseException.__getattribute__"))
  gt : findIn K (.ref C) "__getattr__" = some none
  cl : findIn K (.ref C) "__class__" = some (some (.builtin "object.__class__"))
  cg : specialIn K (.builtin "object.__class__") "__get__" = some (some (.builtin "getset_descriptor.__get__"))
  ct : takesIn K (.builtin "object.__class__") = some true
theorem xby {fill expr : Bool} {tk : Tok} {Q : Value → Shared → Prop} (X : K.In s.heap) (c : XC K C) (I : PySem.W.InstAt s.heap x ox C od)
    (h : wpAny (model prog w) A.in1 (Builtin.«object.__getattribute__» ⟨[.ref x, .str name tk], []⟩)
      (fun fin s' => match fin with | .done (.ret v) => wpAny (model prog w) A (handedOut v) Q E s' | _ => False) (fun _ _ => False) s) :
    wpAny (model prog w) A (getAttrBy (.ref x) (.str name tk) fill expr) Q E s := by
  unfold getAttrBy
  refine wpAny_holding (wpAny_bind (I.type.here (wpAny_bind ((looks_findIn X c.ga).here ?_))))
  have e1 : (onTheHeap (Value.ref C) && (Value.builtin "BaseException.__getattribute__" == Value.builtin "object.__getattribute__")) = false := by rw [show (Value.builtin "BaseException.__getattribute__" == Value.builtin "object.__getattribute__") = false from by decide, Bool.and_false]
  dsimp only
  rw [if_neg (by rw [e1]; decide)]
  unfold getAttrByItsOwn hookBefore
  refine wpAny_bind ?_
  rw [if_pos (show onTheHeap (Value.ref C) = true from rfl)]
  refine (looks_findIn X c.gt).here ?_
  refine wpAny_bind (wpAny_attempt (wpAny_holding ?_))
  unfold callGetattribute
  rw [if_neg (by rw [show onTheHeap (Value.builtin "BaseException.__getattribute__") = false from rfl, Bool.and_false]; decide)]
  unfold boundAndCalled
  rw [PySem.F.excAttr_ValueError.ga.bind]
  refine wpAny_bind (wpAny_pure ?_)
  refine wpAny_call (codeAny_call_builtin PySem.F.excAttr_ValueError.ga.plain PySem.F.entry_bexc_ga (@check_slot (model prog w) _ _ s _ "BaseException" "__getattribute__" (.ref x) [.str name tk] [] _ ga_kind ga_split (xsub X c.x I (by decide)) (PySem.F.args_bexc_ga _ _) ?_))
  refine wpAny_mono h (fun fin s' z => ?_) fun _ _ z => z.elim
  rcases fin with (_ | _ | _ | _) | _ <;> first | exact z | exact z.elim
theorem xget {expr : Bool} {Q : Value → Shared → Prop} (X : K.In s.heap) (c : XC K C) (I : PySem.W.InstAt s.heap x ox C od) (hf : findObj K C od name = some (.value v)) (hh : handedIn v = true) (h : Q v { s with toks := s.toks + 1 }) :
    wpAny (model prog w) A (getAttr (.ref x) name expr) Q E s := by
  unfold getAttr
  refine wpAny_bind (wpAny_mkText (xby (s := { s with toks := s.toks + 1 }) X c I ?_))
  refine wpAny_bind (wpAny_pure (wpAny_bind (wpAny_pure (wpAny_bind (PySem.W.Looks.here (s := { s with toks := s.toks + 1 }) I.type (wpAny_bind (PySem.W.Looks.here (s := { s with toks := s.toks + 1 }) (looks_find X I hf) ?_)))))))
  refine wpAny_pure ?_
  show wpAny _ _ (handedOut v) _ _ _
  rw [handedOut_of hh]; exact wpAny_pure h
theorem XC.mro (c : XC K C) : mroIn K C (.type "object") = some true := by
  obtain ⟨cd, hc, _, hm⟩ := xcls_of c.x
  unfold mroIn
  rw [hc, Option.bind_some, if_neg (by rw [refs_nil hm]; decide), refs_has "object" (by decide) hm]
theorem XC.at (c : XC K C) : ∃ cd o dd sl, K.lookup C = some ⟨o, dd, .cls cd, sl⟩ := by
  obtain ⟨cd, hc, _, _⟩ := xcls_of c.x
  unfold clsIn at hc
  split at hc
  · rename_i ho; exact ⟨_, _, _, _, ho⟩
  · cases hc
theorem XC.look {M : Model} {h : Heap} (c : XC K C) (X : K.In h) : Looks M h (isType (.ref C)) true := by
  obtain ⟨cd, o, dd, sl, ho⟩ := c.at
  refine fun A' Q' E' s' k q => ?_
  unfold isType loadHead
  exact wpAny_bind (wpAny_loadPart (k _ _ (X _ _ ho)) (wpAny_pure q))
end
end XO
namespace XO
open PySem PySem.Spec PyProof.Rows PySem.W Builtin.ObjectAttr
def xmk (K : Frag) (C : Addr) : Bool := match K.lookup C with
  | some ⟨.type "type", _, .cls cd, sl⟩ => (match cd.mro, sl.toList with
    | .ref D :: bm, [_, _, _, _, some (.builtin n), _] => D == C && n == "ValueError.__new__" && !cd.hasDel && tailIn K tailB bm
    | _, _ => false)
  | _ => false
theorem xmk_of {K : Frag} {C : Addr} {h : Heap} (X : K.In h) (e : xmk K C = true) : ∃ nm q N bs bm hdct sn sub ab col dd k0 k1 k2 k3 k5,
    h.get? C = some (excClassObj nm q C N bs bm hdct sn sub ab col dd k0 k1 k2 k3 k5 "ValueError.__new__") ∧ OwnTail h tailB bm := by
  unfold xmk at e
  split at e
  · rename_i dd cd sl ho
    split at e
    · rename_i D bm a0 a1 a2 a3 n a5 hm hs
      simp only [Bool.and_eq_true, beq_iff_eq, Bool.not_eq_true'] at e
      obtain ⟨⟨⟨h1, h2⟩, h3⟩, h4⟩ := e
      subst h1 h2
      obtain ⟨c1, c2, c3, c4, c5, c6, c7, c8, c9, c10, c11⟩ := cd
      dsimp only at hm h3
      subst hm h3
      obtain ⟨l⟩ := sl
      simp only at hs
      subst hs
      exact ⟨_, _, _, _, _, _, _, _, _, _, _, _, _, _, _, _, X _ _ ho, tail_of_in X h4⟩
    · cases e
  · cases e
abbrev xraw (C t : Addr) : Obj := { cls := .ref C, data := .fields #[.ref t, .none, .none, .none, .bool false, .none] }
section
variable {prog : Program} {w : World} {A : Around} {E : Value → Shared → Prop} {K : Frag} {C f : Addr} {h : Heap} {g : Array GenState} {d : Drawn} {t : Nat} {os : OsState}
theorem xtype {us : List Value} {Q : PySem.Fin → Shared → Prop} (X : K.In h) (c : XC K C) (q : xmk K C = true) (hi : findIn K (.ref C) "__init__" = some (some (.ref f))) (hf : typeIn K (.ref f) = some (.type "function")) (hz : us.length ≤ sizeLine)
    (k : wpAny (model prog w) A (call (.ref f) (.ref (h.objs.size + 1) :: us)) (fun r s' => r = .none ∧ Q (.done (.ret (.ref (h.objs.size + 1)))) s') E
      ⟨(h.push { cls := .type "tuple", data := .seq us.toArray }).push (xraw C h.objs.size), g, d, t, os⟩) :
    wpAny (model prog w) A (Builtin.«type.__call__» ⟨.ref C :: us, []⟩) Q E ⟨h, g, d, t, os⟩ := by
  obtain ⟨nm, q', N, bs, bm, hdct, sn, sub, ab, col, dd, k0, k1, k2, k3, k5, hC, T⟩ := xmk_of X q
  have B := PySem.F.excBase_ValueError
  repeat (first | with_reducible refine wpAny_loadPart_at hC ?_ | with_reducible refine wpAny_madeBy_exc hC ?_ | wp_step)
  refine codeAny_call_builtin_code (Code.quiet_builtin _ B.quiet) (wpAny_check_new_subT B T hC (codeAny_exc_new_subT B T hC ?_ hz))
  show wpAny _ _ _ _ _ _
  have kp : ∀ b o, h.get? b = some o → ((h.push { cls := .type "tuple", data := .seq us.toArray }).push (xraw C h.objs.size)).get? b = some o := fun b o z => Heap.get?_push_of_some _ (Heap.get?_push_of_some _ z)
  have X1 := X.keeps kp
  have eg : ((h.push { cls := .type "tuple", data := .seq us.toArray }).push (xraw C h.objs.size)).get? (h.objs.size + 1) = some (xraw C h.objs.size) := by heap_get
  have I : PySem.W.InstAt ((h.push { cls := .type "tuple", data := .seq us.toArray }).push (xraw C h.objs.size)) (h.objs.size + 1) (xraw C h.objs.size) C none := ⟨eg, rfl, rfl, True.intro⟩
  obtain ⟨cd, hc, _, hm⟩ := xcls_of c.x
  have hsub : Looks (model prog w) ((h.push { cls := .type "tuple", data := .seq us.toArray }).push (xraw C h.objs.size)) (isInstance (.ref (h.objs.size + 1)) (.ref C)) true := by
    refine I.type.andThen (fun A' Q' E' s' k' z => ?_)
    exact wpAny_isSubtype_exc (h := s'.heap) (g := s'.gens) (d := s'.drawn) (t := s'.toks) (os := s'.os) (k' _ _ (kp _ _ hC)) (by rw [show (Value.ref C :: bm).contains (Value.ref C) = true from by simp]; exact z)
  refine wpAny_bind (hsub.here ?_)
  rw [if_neg (by decide)]
  refine wpAny_bind (wpAny_holding (special_fn (s := ⟨_, g, d, t, os⟩) X1 I hi hf (wpAny_mono k (fun r s' z => ?_) fun _ _ z => z)))
  obtain ⟨rfl, z⟩ := z
  exact wpAny_pure z
theorem xcall {us : List Value} {Q : Value → Shared → Prop} (X : K.In h) (c : XC K C) (q : xmk K C = true) (hi : findIn K (.ref C) "__init__" = some (some (.ref f))) (hf : typeIn K (.ref f) = some (.type "function")) (hz : us.length ≤ sizeLine)
    (k : wpAny (model prog w) (A.under (.builtin "type.__call__" ⟨.ref C :: us, []⟩)) (call (.ref f) (.ref (h.objs.size + 1) :: us)) (fun r s' => r = .none ∧ Q (.ref (h.objs.size + 1)) s') E
      ⟨(h.push { cls := .type "tuple", data := .seq us.toArray }).push (xraw C h.objs.size), g, d, t, os⟩) :
    wpAny (model prog w) A (call (.ref C) us) Q E ⟨h, g, d, t, os⟩ := by
  obtain ⟨nm, q', N, bs, bm, hdct, sn, sub, ab, col, dd, k0, k1, k2, k3, k5, hC, T⟩ := xmk_of X q
  have l1 := tc_lookup
  have l2 := tc_bind (.ref C)
  have l3 : (⟨h, g, d, t, os⟩ : Shared).TypeIs (.ref C) "type" := ⟨_, hC, rfl⟩
  refine wpAny_call (codeAny_of_tree ?_)
  show wpAny _ _ (callAny (.ref C) ⟨us, []⟩) _ _ _
  repeat (any_goals (first | with_reducible refine wpAny_loadPart_at hC ?_ | assumption | wp_step))
  exact ⟨rfl, codeAny_call_builtin_at (Code.quiet_builtin _ (by decide +kernel)) entry_typeCall (wpAny_check_type_call_sub hC (xtype X c q hi hf hz k))⟩
end
end XO
namespace XO
open PySem PySem.Spec PyProof.Rows PySem.W
abbrev xobj (C : Addr) (dct : Option Addr) (vs : Array Value) : Obj := { cls := .ref C, dict := dct, data := .fields vs }
def Tb (h : Heap) (e : Addr) (vs : Array Value) : Prop := vs[1]? = some .none ∨ ∃ T oT ts, vs[1]? = some (.ref T) ∧ T ≠ e ∧ h.get? T = some oT ∧ oT.data = .fields ts ∧ ts[3]? = some .none
theorem Tb.size {h : Heap} {e : Addr} {vs : Array Value} (t : Tb h e vs) : 1 < vs.size := by
  rcases t with z | ⟨_, _, _, z, _⟩ <;> exact (Array.getElem?_eq_some_iff.mp z).1
section
variable {M : Model} {A : Around} {E : Value → Shared → Prop} {s : Shared} {base : Heap} {env : PySem.Env} {outer : List PySem.Env} {L e C : Addr} {dct : Option Addr} {vs : Array Value}
structure Seen (fs : List Addr) (e : Addr) (h h' : Heap) : Prop where
  keep : ∀ b o, b ≠ e → b ∉ fs → h.get? b = some o → h'.get? b = some o
  slot : ∀ b o, b ∈ fs → h.get? b = some o → ∃ sl, h'.get? b = some { o with slots := sl }
theorem lookX {Q : Unit → Shared → Prop} (hfr : A.frames = some (env :: outer)) (hl : s.heap.FunFrames base (env :: outer)) (hf : env.frame = some L) (he : s.heap.get? e = some (xobj C dct vs)) (tb : Tb s.heap e vs)
    (q : ∀ h' vs', h'.get? e = some (xobj C dct vs') → Tb h' e vs' → vs'[1]? ≠ some .none → Seen ((env :: outer).filterMap (·.frame)) e s.heap h' → Q () { s with heap := h' }) :
    wpAny M A (noteFrame (.ref e) env) (fun _ s1 => wpAny M A (setFlight (.ref e) none) Q E s1) E s := by
  have nfr : ∀ b o us, s.heap.get? b = some o → o.data = .fields us → b ∉ (env :: outer).filterMap (·.frame) := fun b o us z zd hm => by
    obtain ⟨_, o', ho, hn⟩ := hl.mem hm
    rw [z] at ho
    cases ho
    exact hn us zd
  have main : ∀ (head : Value) (had : Bool), wpAny M A (do let a ← frameOf env; let pl ← entryPlaceOf L had; let b ← EntryCells.newEntry head a .none (rawInt L) .none pl; setField (.ref e) 1 b) (fun _ s1 => wpAny M A (setFlight (.ref e) none) Q E s1) E s := by
    intro head had
    refine wpAny_bind (wpAny_frameOf_fun hfr hl hf fun h1 so => wpAny_bind (wpAny_entryPlaceOf fun pl hpl => ?_))
    unfold EntryCells.newEntry newFields
    refine wpAny_bind (wpAny_newObj_type ?_ (hpl.sizeOk5 _ _ _ _ _))
    have e1 : h1.get? e = some (xobj C dct vs) := (so.2.1 e (nfr e _ vs he rfl)).trans he
    generalize hts : ([head, Value.ref L, .none, rawInt L, .none] ++ (if pl.isEmpty then List.replicate 6 Value.none else pl)).toArray = ts
    have hts3 : 3 < ts.size := by
      rw [← hts]
      simp only [List.size_toArray, List.length_append, List.length_cons, List.length_nil] <;> omega
    have e2 := Heap.get?_push_of_some (h := h1) { cls := .type "traceback", dict := none, data := .fields ts } e1
    refine wpAny_setField e2 rfl tb.size ?_
    have ne : h1.objs.size ≠ e := Nat.ne_of_gt (Heap.lt_size e1)
    have e3 : ((h1.push { cls := .type "traceback", dict := none, data := .fields ts }).update e (Obj.mapFields (·.setIfInBounds 1 (Value.ref h1.objs.size)))).get? e = some (xobj C dct (vs.setIfInBounds 1 (Value.ref h1.objs.size))) :=
      Heap.get?_update_self _ e2 rfl
    have e4 : ((h1.push { cls := .type "traceback", dict := none, data := .fields ts }).update e (Obj.mapFields (·.setIfInBounds 1 (Value.ref h1.objs.size)))).get? h1.objs.size = some { cls := .type "traceback", dict := none, data := .fields ts } :=
      (Heap.get?_update_other _ _ (Ne.symm ne)).trans (Heap.get?_push_size h1 rfl)
    have v1 : (vs.setIfInBounds 1 (Value.ref h1.objs.size))[1]? = some (Value.ref h1.objs.size) := by simp [tb.size]
    unfold setFlight
    refine wpAny_bind (wpAny_field e3 rfl v1 ?_)
    rw [if_pos (show (Value.ref h1.objs.size != Value.none) = true from by simp)]
    refine wpAny_setField e4 rfl hts3 (q _ (vs.setIfInBounds 1 (Value.ref h1.objs.size)) ?_ (.inr ⟨h1.objs.size, _, ts.setIfInBounds 3 .none, v1, ne, Heap.get?_update_self _ e4 rfl, rfl, by simp [hts3]⟩) (by rw [v1]; intro z; cases z) ?_)
    · rw [Heap.get?_update_other _ _ ne]; exact e3
    · have kp : ∀ b o, b ≠ e → h1.get? b = some o → (((h1.push { cls := .type "traceback", dict := none, data := .fields ts }).update e (Obj.mapFields (·.setIfInBounds 1 (Value.ref h1.objs.size)))).update h1.objs.size
          (Obj.mapFields (·.setIfInBounds 3 ((none : Option Addr).elim Value.none fun f => rawInt f)))).get? b = some o := fun b o hb z => by
        rw [Heap.get?_update_other _ _ (Nat.ne_of_gt (Heap.lt_size z)), Heap.get?_update_other _ _ (Ne.symm hb)]
        exact Heap.get?_push_of_some _ z
      refine ⟨fun b o hb hm z => kp b o hb ((so.2.1 b hm).trans z), fun b o hm z => ?_⟩
      obtain ⟨sl, z2⟩ := so.2.2 b o z
      exact ⟨sl, kp b _ (fun w => nfr e _ vs he rfl (w ▸ hm)) z2⟩
  unfold noteFrame
  simp only [hf]
  rcases tb with z | ⟨T, oT, ts, z1, z2, z3, z4, z5⟩
  · refine wpAny_bind (wpAny_field he rfl z ?_)
    rw [if_neg (by decide)]
    exact main _ _
  · refine wpAny_bind (wpAny_field he rfl z1 ?_)
    rw [if_pos (show (Value.ref T != Value.none) = true from by simp)]
    refine wpAny_bind (wpAny_field z3 z4 z5 ?_)
    rw [if_neg (show ¬ ((Value.none == rawInt L) = true) from by simp [rawInt])]
    refine wpAny_bind (wpAny_setField z3 z4 (Array.getElem?_eq_some_iff.mp z5).1 ?_)
    rw [Heap.update_setField_same s.heap T oT ts 3 .none z3 z4 z5]
    exact main _ _
end
end XO
set_option Elab.async false
set_option linter.all false
set_option maxRecDepth 100000
set_option maxHeartbeats 4000000
namespace XO
open PySem PySem.Spec PyProof.Rows PySem.W
section
variable {prog : Program} {w : World} {A : Around} {E : Value → Shared → Prop} {s : Shared} {K : Frag} {env : PySem.Env}
theorem raiseX {x : Sem Value} {Q : Flow → Shared → Prop} (hh : A.handled = none)
    (h : wpAny (model prog w) A x (fun v s1 => ∃ e C dct vs, v = .ref e ∧ K.In s1.heap ∧ xcls K C = true ∧ typeIn K (.ref C) = some (.type "type") ∧ s1.heap.get? e = some (xobj C dct vs) ∧ vs[1]? = some .none ∧ E (.ref e) s1) E s) :
    wpAny (model prog w) A (raiseStmt env (some x) none) Q E s := by
  unfold raiseStmt
  refine wpAny_bind (wpAny_mono h (fun v s1 z => ?_) fun _ _ z => z)
  obtain ⟨e, C, dct, vs, rfl, X, c, ty, he, h1, q⟩ := z
  obtain ⟨hp, g, d, tk, os⟩ := s1
  have L : Looks (model prog w) hp (isType (.ref e)) false := fun A' Q' E' s' k q => by
    unfold isType loadHead
    exact wpAny_bind (wpAny_loadPart (k _ _ he) (wpAny_pure q))
  have T : Looks (model prog w) hp (typeOf (.ref e)) (.ref C) := (Looks.ld he).andThen .now
  obtain ⟨cd, hc, _, hm⟩ := xcls_of c
  have S : Looks (model prog w) hp (isInstance (.ref e) (.type "BaseException")) true := T.andThen (looks_mroIn X (by
    unfold mroIn
    rw [hc, Option.bind_some, if_neg (by rw [refs_nil hm]; decide), refs_has "BaseException" (by decide) hm]))
  have N : Looks (model prog w) hp (isExcClass (.ref e)) false := L.andThen .now
  have Y := looks_typeIn (M := model prog w) X ty
  have R : Looks (model prog w) hp (raisedInstance (.ref e)) (.ref e) := T.andThen (Y.andThen (by rw [if_pos (by decide)]; exact .now))
  have Z : Looks (model prog w) hp (excFromValue (.ref e) "exceptions must derive from BaseException") (.ref e) := by
    unfold excFromValue
    refine N.andThen ?_
    rw [if_neg Bool.false_ne_true]
    refine S.andThen ?_
    rw [if_pos rfl]
    exact .now
  refine wpAny_bind (wpAny_pure (wpAny_bind (wpAny_holding (Z.at ?_))))
  dsimp only
  refine wpAny_bind (L.at ?_)
  rw [if_neg Bool.false_ne_true]
  refine wpAny_bind (R.at ?_)
  unfold setFlight
  refine wpAny_bind (wpAny_bind (wpAny_field he rfl h1 ?_))
  rw [if_neg (by decide)]
  exact wpAny_pure (wpAny_raiseNew_none hh q)
end
end XO
set_option Elab.async false
set_option linter.all false
set_option maxRecDepth 100000
set_option maxHeartbeats 4000000
namespace L2
open PySem PySem.Spec PyProof.Rows XO
def XF (e C : Addr) (dct : Option Addr) : Heap → Prop := fun h => ∃ vs, h.get? e = some (xobj C dct vs)
def DX (dx : Addr) (l : List (Str × V)) : Heap → Prop := fun h => ∃ mA, h.Ns1 dx mA ∧ (∀ f, RelO (l.lookup f) (mA f)) ∧ PySem.Within mA (l.map (·.1))
def Air (H : Hp) (h : Heap) (e : Addr) : Prop := ∃ C dct vs, H e = some (.ext (XF e C dct)) ∧ h.get? e = some (xobj C dct vs) ∧ Tb h e vs
theorem xf_ok {P : Program} {w : World} {H : Hp} {h : Heap} {e C : Addr} {dct : Option Addr} {vs : Array Value} (z : h.get? e = some (xobj C dct vs)) : ObjOk P w H h e (.ext (XF e C dct)) :=
  ⟨⟨vs, z⟩, ⟨_, z⟩, fun h1 h2 ⟨us, e1⟩ k => ⟨us, k _ e1⟩⟩
theorem dx_ok {P : Program} {w : World} {H : Hp} {h : Heap} {dx : Addr} {l : List (Str × V)} (z : DX dx l h) : ObjOk P w H h dx (.ext (DX dx l)) :=
  ⟨z, let ⟨_, ⟨o, _, _, e, _⟩, _⟩ := z; ⟨o, e⟩, fun h1 h2 ⟨mA, n, r⟩ k => ⟨mA, n.at k, r⟩⟩
section
variable {X : Cx} {pins : List (Addr × Obj)} {σ : St} {H : Hp} {s : Shared} {a : Addr}
theorem Inv.seen {C : Addr} {dct : Option Addr} {vs : Array Value} {h' : Heap} (I : Inv X pins σ H s) (e : H a = some (.ext (XF a C dct))) (he : h'.get? a = some (xobj C dct vs)) (sn : Seen (frs X.stack) a s.heap h') : Inv X pins σ H { s with heap := h' } := by
  have nfs : ∀ b u, H b = some u → b ∉ frs X.stack := fun b u z hb => by rw [I.stkFree b hb] at z; cases z
  refine I.call (g' := s.gens) (t' := s.toks) (d' := s.drawn) (ch := []) ⟨fun b o z n hb _ => sn.keep b o (fun w => by rw [w, e] at n; cases n) hb z, fun b o z _ hb _ => sn.slot b o hb z, fun _ _ _ n _ => n, fun b o z _ => ?_, fun _ _ z => z, fun _ _ _ z => z, fun _ ps z => ⟨#[], by rw [z]; simp⟩⟩ (fun b o z => ?_) I.bare (fun b z => absurd z (by simp))
  · by_cases hb : b = a
    · subst hb; exact ⟨_, he⟩
    · by_cases hm : b ∈ frs X.stack
      · obtain ⟨sl, q⟩ := sn.slot b o hm z; exact ⟨_, q⟩
      · exact ⟨o, sn.keep b o hb hm z⟩
  · by_cases hb : b = a
    · subst hb
      rw [e] at z
      cases z
      exact xf_ok he
    · refine (I.hok b o z).stay (fun c u hc q => sn.keep c u ?_ ?_ q) (fun _ q => q) fun _ _ q => q
      · rcases hc with w | w
        · rw [w]; exact hb
        · intro y; rw [y, e] at w; cases w
      · rcases hc with w | w
        · rw [w]; exact nfs b o z
        · exact nfs c _ w
theorem Inv.lookX {Q : Unit → Shared → Prop} {E : Value → Shared → Prop} {A : Around} (I : Inv X pins σ H s) (hA : A.frames = some X.stack) (hst : X.stack = X.env :: X.outer) (hf : X.env.frame = some X.env.locals) (air : Air H s.heap a)
    (q : ∀ s', Inv X pins σ H s' → Air H s'.heap a → Q () s') : wpAny (model X.prog X.w) A (noteFrame (.ref a) X.env) (fun _ s1 => wpAny (model X.prog X.w) A (setFlight (.ref a) none) Q E s1) E s := by
  obtain ⟨C, dct, vs, e1, e2, e3⟩ := air
  have st := I.stack
  rw [hst] at st hA
  refine XO.lookX hA st hf e2 e3 fun h' vs' g1 g2 _ g3 => q _ (I.seen e1 g1 ?_) ⟨C, dct, vs', e1, g1, g2⟩
  rw [hst]; exact g3
end
def CXE (P : Program) (w : World) : CXT := fun outer H s E e s' => ∃ a H', e = .ref a ∧ s'.os = s.os ∧ AllBare s'.gens ∧ Un (frs outer) [] H H' s.heap s'.heap ∧ HOk P w H' s'.heap ∧ Air H' s'.heap a ∧ E e none H'
section
variable {X : Cx} {CX : CXT} {k : Nat} {f C : Addr} {fd : FuncData} {ps : List Str} {sp : Sp} {E : XK} {pins : List (Addr × Obj)} {σ : St} {H : Hp} {s : Shared} {Q : VK} {us : List Value} {vs : List V}
theorem run_fnX (F : FnOk X.prog X.w X.K X.mg X.base CX k f fd ps sp) (hr : Room k X.A) (hb : Binds X.K fd ps []) (I : Inv X pins σ H s) (r : Vals vs us) (h : sp vs H Q E) (hx : ∀ e s', CX X.stack H s E e s' → X.xe e s') :
    wpAny (model X.prog X.w) X.A (call (.ref f) us) (EP X pins σ Q) X.xe s := by
  have hl : (us ++ []).length = ps.length := by rw [List.append_nil, ← r.length]; exact F.len _ _ _ _ h
  have b := hb s us I.kIn hl
  rw [List.append_nil] at b
  refine wpAny_call (codeAny_mono (F.run X.A X.stack s H ⟨us, []⟩ us vs Q E hr I.env0 b r h) fun r s' hq => ?_)
  cases r with
  | error e => exact hx e s' hq
  | ok fl => cases fl <;> first | exact I.after hq | exact False.elim hq
end
end L2
namespace D
open PySem PySem.Spec PyProof.Rows L2 XO
abbrev XQ := Addr → MH → Prop
abbrev XE := Addr → DS → MH → Prop
abbrev SpX := List W → MH → QD → XQ → Prop
def upSpX (K : PySem.W.Frag) (sp : SpX) : Sp := fun vs H Q E => ∃ ws M Qd Ed, RepWs K H ws vs ∧ MAbs K H M ∧ sp ws M Qd Ed ∧ Kont K H Qd Q ∧ ∀ a H' M', Kp H H' → MAbs K H' M' → Ed a M' → E (.ref a) none H'
def Lk (X : Cx) (E : XE) : Prop := ∀ (pins : List (Addr × Obj)) (σ : St) (H : Hp) (s : Shared) (a : Addr) (τ : DS) (M : MH), Inv X pins σ H s → Air H s.heap a → Abs X.K H σ τ M → E a τ M → X.xe (.ref a) s
section
variable {P : Program} {w : World} {K : PySem.W.Frag} {mg : Str → Option Value} {base : Heap}
theorem lk_def {N : List Str} {qual : Str} {scope : Scope} {f : Addr} {cd : Value} {A : Around} {outer : List Env} {s : Shared} {H : Hp} {E : XK} {Ed : XQ} (he : ∀ a H' M', Kp H H' → MAbs K H' M' → Ed a M' → E (.ref a) none H') :
    Lk (cxOf (CXE P w) P w K mg base N qual scope f cd A outer s H E) fun a _ M => Ed a M := by
  intro pins σ H1 s1 a τ M I air ab e
  show wpAny _ _ (leaving _ _) _ _ _
  unfold leaving
  refine wpAny_bind (I.lookX I.ok.frames rfl rfl air fun s2 J air2 => ?_)
  exact ⟨a, H1, rfl, J.os, J.bare, J.base, J.hok, air2, he a H1 M (Kp.un J.base) ab.mem e⟩
theorem fun_okX {x qual : Str} {st : Stmt} {f : Addr} {fd : FuncData} {N ps : List Str} {k : Nat} {sp : SpX} {t : XE → TSd} (F : Fun K x qual st f fd) (S : FnScope N ps (defScope st)) (len : ∀ ws M Q E, sp ws M Q E → ws.length = ps.length)
    (hbody : ∀ (cdv : Value) (A : Around) (outer : List Env) (s : Shared) (H : Hp) (E : XK) (Ed : XE), Room k (A.deeper (envOfC qual (defScope st) s.heap.objs.size f cdv)) → Lk (cxOf (CXE P w) P w K mg base N qual (defScope st) f cdv A outer s H E) Ed →
      PassesOwn (model P w) (A.deeper (envOfC qual (defScope st) s.heap.objs.size f cdv)) (envOfC qual (defScope st) s.heap.objs.size f cdv) (cxOf (CXE P w) P w K mg base N qual (defScope st) f cdv A outer s H E).xe →
      PSsd (cxOf (CXE P w) P w K mg base N qual (defScope st) f cdv A outer s H E) (defBody st) (t Ed))
    (read : ∀ ws M Q E, sp ws M Q E → t (fun a _ M => E a M) { nx := fun _ M' => Q (.d .none) M', rt := Q } (startD N ws) M) : FnOk P w K mg base (CXE P w) (k + 1) f fd ps (upSpX K sp) := by
  obtain ⟨oc, od, kV, doc, pm, an, cdv, ct, osl, rfl, lk, hcd⟩ := F.ex
  refine fn_of lk hcd S (fun vs H Q E h => ?_) fun A outer s H vs Q E hr h => ?_
  · obtain ⟨ws, M, Qd, Ed, r, _, q, _⟩ := h
    rw [← r.length]
    exact len _ _ _ _ q
  · obtain ⟨ws, M, Qd, Ed, r, m, q, kk, ke⟩ := h
    refine ⟨_, hbody cdv A outer s H E (fun a _ M => Ed a M) hr (lk_def ke) PassesOwn.leaving, startD N ws, M, _, abs_start r m, read ws M Qd Ed q, fun σ' H' τ' M' kp A' q' => ?_, fun v H' w' M' kp r' m' q' => ?_, fun σ' H' τ' M' kp A' q' => q'.elim, fun σ' H' τ' M' kp A' q' => q'.elim⟩
    · exact kk _ H' _ M' kp (by simp [RepW, RepD]) A'.mem q'
    · exact kk v H' w' M' kp r' m' q'
end
section
variable {X : Cx} {pos p apos : Pos} {k : Nat} {f C : Addr} {fd : FuncData} {ps : List Str} {sp : SpX} {x m : Str} {e o : Expr} {es : List Expr} {t : TAd} {td : TD} {E : XE}
theorem lk_call {pins : List (Addr × Obj)} {σ : St} {H : Hp} {s : Shared} {τ : DS} {M : MH} (L : Lk X E) (I : Inv X pins σ H s) (ab : Abs X.K H σ τ M) {E' : XK} (hE : ∀ v H', E' v none H' → ∃ a M', v = .ref a ∧ Kp H H' ∧ MAbs X.K H' M' ∧ E a τ M') {u : Value} {s' : Shared}
    (h : CXE X.prog X.w X.stack H s E' u s') : X.xe u s' := by
  obtain ⟨a, H', rfl, os, br, un, hok, air, q⟩ := h
  obtain ⟨a', M', e, kp, m', q'⟩ := hE _ _ q
  cases e
  exact L pins σ H' s' a τ M' (I.call' os un hok br (fun b z => absurd z (by simp))) air (ab.go kp m') q'
def dMethX (C : Addr) (m : Str) (sp : SpX) (E : XE) (td : TD) (t : TAd) (τ : DS) (M : MH) (Q : QD) : Prop := td τ M fun w M1 => ∃ a fs, w = .m a ∧ M1 a = some (.ins C fs) ∧ fs.lookup m = none ∧ t τ M1 fun ws M2 => sp (w :: ws) M2 Q fun a M' => E a τ M'
theorem pd_methX {pl : Sem Bool} (L : Lk X E) (he : PD X o td) (c : Cls X.K C) (hm : Meth X.K C m f) (F : FnOk X.prog X.w X.K X.mg X.base (CXE X.prog X.w) k f fd ps (upSpX X.K sp)) (hr : Room k X.A) (hb : Binds X.K fd ps []) (ha : PAd X (e :: es) t)
    (ht : eval (.Call (.Attribute o m apos) (e :: es) [] pos) X.env = (do
      let ov ← eval o X.env
      standAt apos.atName
      let (f, first) ← holding [ov] (getMethod ov m pl)
      callWith pos f first (backTo pos (starEach (e :: es) X.env)) (backToKw pos (keywordEach [] X.env))) := by rfl)
    (h1 : isSt e = false := by rfl) (h2 : (es.all fun e => !isSt e) = true := by rfl) : PD X (.Call (.Attribute o m apos) (e :: es) [] pos) (dMethX C m sp E td t) := by
  intro pins s σ H Q I h
  obtain ⟨τ, M, Qd, A, h, k⟩ := h
  refine PySem.W.methodCall_KW (pl := pl) (thn (he pins s σ H (fun x H1 => ∃ w M1, Kp H H1 ∧ RepW X.K H1 w x ∧ MAbs X.K H1 M1 ∧ ∃ a fs, w = .m a ∧ M1 a = some (.ins C fs) ∧ fs.lookup m = none ∧ t τ M1 fun ws M2 => sp (w :: ws) M2 Qd fun a M' => E a τ M') I ⟨τ, M, _, A, h, fun v H1 w M1 kp r m q => ⟨w, M1, kp, r, m, q⟩⟩)
    fun u s1 ⟨y, H1, I1, ry, w, M1, kp1, r1, m1, a, fs, ew, hma, hl, q1⟩ => ?_) ht
  subst ew
  obtain ⟨dx, l, e1, pr⟩ := m1 _ _ hma
  cases (show y = .ref a from r1)
  obtain rfl : u = Value.ref a := ry
  have g := fr_lookup m pr
  rw [hl] at g
  refine getmeth_ok I1 e1 c hm (OR.none_of g) ?_
  refine PySem.W.callWith_K (first := [.ref a]) (h₀ := X.base) I.ok.mod.kin hm.kp (thn (ha pos pins s1 σ H1 (fun vs H2 => ∃ ws M2, Kp H1 H2 ∧ RepWs X.K H2 ws vs ∧ MAbs X.K H2 M2 ∧ sp (.m a :: ws) M2 Qd fun a M' => E a τ M') I1 ⟨τ, M1, _, A.go kp1 m1, q1, fun vs H2 ws M2 kp r m q => ⟨ws, M2, kp, r, m, q⟩⟩)
    fun us s2 ⟨vs, H2, I2, r, ws, M2, kp2, rw, m2, q⟩ => ⟨I2.kIn, ?_⟩) (star_ok e es X.env h1) (plain_ok pos X.env es h2)
  exact run_fnX (us := .ref a :: us) (vs := .ref a :: vs) (E := fun v _ H' => ∃ a M', v = .ref a ∧ Kp H2 H' ∧ MAbs X.K H' M' ∧ E a τ M') F hr hb I2 (.cons rfl r) ⟨.m a :: ws, M2, Qd, _, .cons rfl rw, m2, q, kgo (kgo k kp1) kp2, fun a H' M' kp' m' e' => ⟨a, M', rfl, kp', m', e'⟩⟩ fun u s' hx => lk_call L I2 ((A.go kp1 m1).go kp2 m2) (fun v H' z => z) hx
end
end D
set_option Elab.async false
set_option linter.all false
set_option maxRecDepth 100000
set_option maxHeartbeats 4000000
namespace L2
open PySem PySem.Spec PyProof.Rows XO
def XV (e C : Addr) (dct : Option Addr) (vs : Array Value) : Heap → Prop := fun h => h.get? e = some (xobj C dct vs)
theorem xv_ok {P : Program} {w : World} {H : Hp} {h : Heap} {e C : Addr} {dct : Option Addr} {vs : Array Value} (z : h.get? e = some (xobj C dct vs)) : ObjOk P w H h e (.ext (XV e C dct vs)) := ⟨z, ⟨_, z⟩, fun h1 h2 e1 k => k _ e1⟩
section
variable {X : Cx} {pins : List (Addr × Obj)} {σ : St} {H : Hp} {s : Shared} {a dx C : Addr}
theorem Inv.wr2 {φ φ' : Heap → Prop} {u : HO} {h' : Heap} {t' : Nat} (I : Inv X pins σ H s) (e : H a = some (.ext φ)) (hp : s.heap.objs.size ≤ dx) (kp : ∀ b o, b ≠ a → s.heap.get? b = some o → h'.get? b = some o)
    (o1 : ObjOk X.prog X.w (upd (upd H dx u) a (.ext φ')) h' a (.ext φ')) (o2 : ObjOk X.prog X.w (upd (upd H dx u) a (.ext φ')) h' dx u) : Inv X pins σ (upd (upd H dx u) a (.ext φ')) { s with heap := h', toks := t' } := by
  have hn : H dx = none := I.hok.fresh hp
  have ne : dx ≠ a := fun z => by rw [z, e] at hn; cases hn
  have at_ : ∀ b, b ≠ a → b ≠ dx → (upd (upd H dx u) a (.ext φ')) b = H b := fun b h1 h2 => by rw [upd_ne h1, upd_ne h2]
  have nd : ∀ b v, H b = some v → b ≠ dx := fun b v z w => by rw [w, hn] at z; cases z
  have na : ∀ b v, H b = some v → (∀ ψ, v ≠ .ext ψ) → b ≠ a := fun b v z q w => by rw [w, e] at z; cases z; exact q _ rfl
  refine I.un ⟨fun b o z n _ _ => kp b o (fun w => by rw [w, e] at n; cases n) z, fun b o z n _ _ => ⟨o.slots, kp b o (fun w => by rw [w, e] at n; cases n) z⟩, fun b o z n _ => ?_, fun b o z _ => ?_, fun b xs z => ?_, fun b o v z => ?_, fun b ps z => ⟨#[], ?_⟩⟩ (fun b o z => ?_)
  · rw [at_ b (fun w => by rw [w, e] at n; cases n) (Nat.ne_of_lt (Nat.lt_of_lt_of_le (Heap.lt_size z) hp))]; exact n
  · by_cases hb : b = a
    · subst hb; exact o1.2.1
    · exact ⟨o, kp b o hb z⟩
  · rw [at_ b (na b _ z fun _ w => nomatch w) (nd b _ z)]; exact z
  · rw [at_ b (na b _ z fun _ w => nomatch w) (nd b _ z)]; exact z
  · rw [at_ b (na b _ z fun _ w => nomatch w) (nd b _ z), z]; simp
  · by_cases hb : b = a
    · subst hb; rw [upd_same] at z; cases z; exact o1
    · rw [upd_ne hb] at z
      by_cases hb2 : b = dx
      · subst hb2; rw [upd_same] at z; cases z; exact o2
      · rw [upd_ne hb2] at z
        refine (I.hok b o z).stay (fun c v hc q => kp c v ?_ q) (fun c q => ?_) fun c xs q => ?_
        · rcases hc with w | w
          · rw [w]; exact hb
          · exact na c _ w fun _ y => nomatch y
        · rw [at_ c (na c _ q fun _ w => nomatch w) (nd c _ q)]; exact q
        · rw [at_ c (na c _ q fun _ w => nomatch w) (nd c _ q)]; exact q
end
section
variable {X : Cx} {o value : Expr} {f : Str} {pos pos' : Pos} {ta tv : TE} {C : Addr}
def sX0 (C : Addr) (ta tv : TE) (f : Str) : TS := fun D σ H => tv σ H fun y H1 => ta σ H1 fun x H2 => ∃ a vs, x = .ref a ∧ H2 a = some (.ext (XV a C none vs)) ∧ ∀ dx, H2 dx = none → dx ≠ a → D.nx σ (upd (upd H2 dx (.ext (DX dx [(f, y)]))) a (.ext (XV a C (some dx) vs)))
theorem ps_x0 (c : XC X.K C) (n : NoAttr X.K C f) (ha : PE X o ta) (hv : PE X value tv) (hs : swapsWith value (some (.Attribute o f pos')) pos.line X.env = pure false := by rfl) : PS X (.Assign [.Attribute o f pos'] value pos) (sX0 C ta tv f) := by
  intro pins s σ H D I h
  refine plainObj_wpAny_Assign_Attribute (thn (hv pins s σ H _ I h) fun u s1 ⟨y, H1, I1, ry, q⟩ => thn (ha pins s1 σ H1 _ I1 q) fun ov s2 ⟨x, H2, I2, rx, a, vs, ex, ea, q2⟩ => ?_) hs
  subst ex
  obtain rfl : ov = Value.ref a := rx
  have hx : s2.heap.get? a = some (xobj C _ vs) := (I2.hok a _ ea).1
  refine xset0 I2.kIn c.x c.sa n hx fun h' tk dx g1 g2 g3 g4 g5 => ?_
  refine ⟨σ, _, I2.wr2 ea g1 g5 (xv_ok g3) (dx_ok ⟨_, g4, fun g => ?_, fun g hg => ?_⟩), q2 dx (I2.hok.fresh g1) g2⟩
  · by_cases e : g = f
    · subst e
      simp only [List.lookup, beq_self_eq_true, if_true]; exact ry
    · simp only [List.lookup, beq_eq_false_iff_ne.mpr e, if_neg e]; exact True.intro
  · by_cases e : g = f
    · rw [e]; simp
    · exact absurd (by show (if g = f then some u else none) = none; rw [if_neg e]) hg
end
def xinit (C : Addr) (fs : List Str) : Sp := fun vs H Q _ => ∃ e ys us, vs = .ref e :: ys ∧ ys.length = fs.length ∧ H e = some (.ext (XV e C none us)) ∧ ∀ dx, H dx = none → dx ≠ e → Q .non (upd (upd H dx (.ext (DX dx (fs.zip ys)))) e (.ext (XV e C (some dx) us)))
section
variable {P : Program} {w : World} {K : PySem.W.Frag} {mg : Str → Option Value} {base : Heap} {C f : Addr} {fd : FuncData} {qual : Str} {st : Stmt}
theorem init1 {p g : Str} {p1 p2 p3 p4 : Pos} (F : Fun K "__init__" qual st f fd) (S : FnScope ["self", p] ["self", p] (defScope st)) (c : XC K C) (n : NoAttr K C g)
    (hb : defBody st = [.Assign [.Attribute (.Name "self" p1) g p2] (.Name p p3) p4]) (hs : ∀ env, swapsWith (.Name p p3) (some (.Attribute (.Name "self" p1) g p2)) p4.line env = pure false) (hp : (p == ("__debug__" : Str)) = false) (hc : (p == ("__classdict__" : Str)) = false) : FnOk P w K mg base CX0 1 f fd ["self", p] (xinit C [g]) := by
  refine F.ok (k := 0) S (fun vs H Q E ⟨e, ys, us, h1, h2, _⟩ => by rw [h1, List.length_cons, h2]; rfl) fun cdv A outer s H vs Q E hr h => ?_
  obtain ⟨e, ys, us, rfl, h2, h3, q⟩ := h
  obtain ⟨y, rfl⟩ : ∃ y, ys = [y] := by
    match ys, h2 with
    | [y], _ => exact ⟨y, rfl⟩
  rw [hb]
  have v1 := S.par "self" (by simp)
  have v2 := S.par p (by simp)
  refine ⟨_, pss_one (ps_x0 c n (pe_var (i := 0) rfl (v1.elim .inl fun z => .inr (.inl z)) (by decide) (by decide)) (pe_var (i := 1) rfl (v2.elim .inl fun z => .inr (.inl z)) hp hc) (hs _)), ?_⟩
  exact ⟨y, rfl, .ref e, rfl, e, us, rfl, h3, fun dx hd ne => q dx hd ne⟩
end
end L2
namespace D
open PySem PySem.Spec PyProof.Rows L2 XO
theorem zip_pair {K : PySem.W.Frag} {H : Hp} : ∀ (fs : List Str) {ws : List W} {vs : List V}, RepWs K H ws vs → Paired (fun (p : Str × W) (q : Str × V) => p.1 = q.1 ∧ RepW K H p.2 q.2) (fs.zip ws) (fs.zip vs)
  | [], _, _, _ => .nil
  | _ :: _, _, _, .nil => .nil
  | f :: fs, _, _, .cons r t => .cons ⟨rfl, r⟩ (zip_pair fs t)
section
variable {X : Cx} {pos p cpos : Pos} {k : Nat} {f C : Addr} {fd : FuncData} {ps fs : List Str} {x : Str} {e : Expr} {es : List Expr} {t : TAd} {E : XE}
def dRaise (C : Addr) (fs : List Str) (E : XE) (t : TAd) (_ : Ed) (τ : DS) (M : MH) : Prop := t τ M fun ws M1 => ws.length = fs.length ∧ ws.length ≤ 1000 ∧ ∀ a, M1 a = none → E a τ (updM M1 a (.exc C (fs.zip ws)))
structure Xm (K : PySem.W.Frag) (C f : Addr) : Prop where
  xc : XC K C
  xm : xmk K C = true
  ty : PySem.W.typeIn K (.ref C) = some (.type "type")
  hi : PySem.W.findIn K (.ref C) "__init__" = some (some (.ref f))
  hf : PySem.W.typeIn K (.ref f) = some (.type "function")
  kp : PySem.W.keepIn K (.ref C) = true
theorem psd_raise (L : Lk X E) (c : Xm X.K C f) (F : FnOk X.prog X.w X.K X.mg X.base CX0 k f fd ps (xinit C fs)) (hr : Room (k + 1) X.A) (hg : Gl X x) (hm : X.mg x = some (.ref C)) (hb : Binds X.K fd ps []) (ha : PAd X (e :: es) t)
    (hdb : (x == ("__debug__" : Str)) = false := by decide) (h1 : isSt e = false := by rfl) (h2 : (es.all fun e => !isSt e) = true := by rfl) : PSd X (.Raise (some (.Call (.Name x p) (e :: es) [] cpos)) none pos) (dRaise C fs E t) := by
  intro pins s σ H D I h
  obtain ⟨τ, M, Dd, A, h, _⟩ := h
  rw [arm_exec_Raise]
  refine wpAny_bind (wpAny_standAt (raiseX (K := X.K) hr.hd (wpAny_bind ?_)))
  refine wpAny_Call_Name_kw (ld_glob I hg hm ?_ hdb)
  refine PySem.W.callWith_K (h₀ := X.base) I.ok.mod.kin c.kp (thn (ha cpos pins s σ H (fun vs H1 => ∃ ws M1, Kp H H1 ∧ RepWs X.K H1 ws vs ∧ MAbs X.K H1 M1 ∧ ws.length = fs.length ∧ ws.length ≤ 1000 ∧ ∀ a, M1 a = none → E a τ (updM M1 a (.exc C (fs.zip ws)))) I
    ⟨τ, M, _, A, h, fun vs H1 ws M1 kp r m q => ⟨ws, M1, kp, r, m, q⟩⟩) fun us s1 ⟨vs, H1, I1, r, ws, M1, kp, rw1, m1, hl, hz, q⟩ => ⟨I1.kIn, ?_⟩) (star_ok e es X.env h1) (plain_ok cpos X.env es h2)
  have hlv : vs.length = fs.length := by rw [← rw1.length]; exact hl
  have e0 : H1 (s1.heap.objs.size + 1) = none := I1.hok.fresh (Nat.le_succ _)
  have J : Inv X pins σ (upd H1 (s1.heap.objs.size + 1) (.ext (XV (s1.heap.objs.size + 1) C none #[.ref s1.heap.objs.size, .none, .none, .none, .bool false, .none]))) { s1 with heap := (s1.heap.push { cls := .type "tuple", data := .seq us.toArray }).push (xraw C s1.heap.objs.size) } := by
    have I2 := I1.kept (t' := s1.toks) (h' := s1.heap.push { cls := .type "tuple", data := .seq us.toArray }) fun b u z => Heap.get?_push_of_some _ z
    refine I2.laid (t' := s1.toks) (fun b u z => Heap.get?_push_of_some _ z) (by show (s1.heap.push _).objs.size ≤ _; rw [Heap.size_push]; exact Nat.le_refl _) (xv_ok ?_)
    have := Heap.get?_push_size (s1.heap.push { cls := .type "tuple", data := .seq us.toArray }) (o := xraw C s1.heap.objs.size) rfl
    rwa [Heap.size_push] at this
  have r2 : Vals (V.ref (s1.heap.objs.size + 1) :: vs) (Value.ref (s1.heap.objs.size + 1) :: us) := .cons rfl r
  refine xcall (h := s1.heap) (g := s1.gens) (d := s1.drawn) (t := s1.toks) (os := s1.os) I1.kIn c.xc c.xm c.hi c.hf (by show us.length ≤ _; have := r.length; have := rw1.length; have := s16; omega) ?_
  have hq := F.len (V.ref (s1.heap.objs.size + 1) :: vs) (upd H1 (s1.heap.objs.size + 1) (.ext (XV (s1.heap.objs.size + 1) C none #[.ref s1.heap.objs.size, .none, .none, .none, .bool false, .none])))
    (fun v H3 => v = .non ∧ ∃ dx, (upd H1 (s1.heap.objs.size + 1) (.ext (XV (s1.heap.objs.size + 1) C none #[.ref s1.heap.objs.size, .none, .none, .none, .bool false, .none]))) dx = none ∧ dx ≠ s1.heap.objs.size + 1 ∧
      H3 = upd (upd (upd H1 (s1.heap.objs.size + 1) (.ext (XV (s1.heap.objs.size + 1) C none #[.ref s1.heap.objs.size, .none, .none, .none, .bool false, .none]))) dx (.ext (DX dx (fs.zip vs)))) (s1.heap.objs.size + 1) (.ext (XV (s1.heap.objs.size + 1) C (some dx) #[.ref s1.heap.objs.size, .none, .none, .none, .bool false, .none]))) E0
    ⟨_, vs, _, rfl, hlv, upd_same, fun dx hd ne => ⟨rfl, dx, hd, ne, rfl⟩⟩
  have bnd := hb { s1 with heap := (s1.heap.push { cls := .type "tuple", data := .seq us.toArray }).push (xraw C s1.heap.objs.size) } (Value.ref (s1.heap.objs.size + 1) :: us) J.kIn (by rw [List.append_nil, ← r2.length]; exact hq)
  rw [List.append_nil] at bnd
  refine wpAny_call (codeAny_mono (F.run _ X.stack { s1 with heap := (s1.heap.push { cls := .type "tuple", data := .seq us.toArray }).push (xraw C s1.heap.objs.size) } _ ⟨Value.ref (s1.heap.objs.size + 1) :: us, []⟩ _ _ (fun v H3 => v = .non ∧ ∃ dx, (upd H1 (s1.heap.objs.size + 1) (.ext (XV (s1.heap.objs.size + 1) C none #[.ref s1.heap.objs.size, .none, .none, .none, .bool false, .none]))) dx = none ∧ dx ≠ s1.heap.objs.size + 1 ∧
      H3 = upd (upd (upd H1 (s1.heap.objs.size + 1) (.ext (XV (s1.heap.objs.size + 1) C none #[.ref s1.heap.objs.size, .none, .none, .none, .bool false, .none]))) dx (.ext (DX dx (fs.zip vs)))) (s1.heap.objs.size + 1) (.ext (XV (s1.heap.objs.size + 1) C (some dx) #[.ref s1.heap.objs.size, .none, .none, .none, .bool false, .none]))) E0
    (hr.make C us []) (J.env0.make C us []) bnd r2 ⟨_, vs, _, rfl, hlv, upd_same, fun dx hd ne => ⟨rfl, dx, hd, ne, rfl⟩⟩) fun rr s' hq' => ?_)
  cases rr with
  | error e => exact False.elim hq'
  | ok fl =>
    cases fl with
    | next => exact False.elim hq'
    | brk => exact False.elim hq'
    | cont => exact False.elim hq'
    | ret u =>
      obtain ⟨v, H3, I3, rv, ev, dx, hd, ne, eH⟩ := J.after hq'
      subst ev
      refine ⟨rv, wpAny_bind (wpAny_standAt (wpAny_pure ?_))⟩
      generalize ha0 : s1.heap.objs.size + 1 = a at *
      generalize hu0 : (#[.ref s1.heap.objs.size, .none, .none, .none, .bool false, .none] : Array Value) = u0 at *
      have e3a : H3 a = some (.ext (XV a C (some dx) u0)) := by rw [eH, upd_same]
      have e3d : H3 dx = some (.ext (DX dx (fs.zip vs))) := by rw [eH, upd_ne ne, upd_same]
      have oa : s'.heap.get? a = some (xobj C (some dx) u0) := (I3.hok a _ e3a).1
      obtain ⟨⟨mA, n1, r1, w1⟩, ⟨od, hod⟩, _⟩ := I3.hok dx _ e3d
      have I4 := I3.write (x := dx) (e := dx) (o := .frz od (.xd (fs.zip vs))) (h' := s'.heap) (t' := s'.toks) (by rw [e3d]; exact True.intro) (.inl rfl) (fun b q _ z => z) ⟨od, hod⟩ ⟨hod, mA, n1, r1⟩
      have e4a : (upd H3 dx (.frz od (.xd (fs.zip vs)))) a = some (.ext (XV a C (some dx) u0)) := by rw [upd_ne (Ne.symm ne)]; exact e3a
      have I5 := I4.write (x := a) (e := a) (o := .ext (XF a C (some dx))) (h' := s'.heap) (t' := s'.toks) (by rw [e4a]; exact True.intro) (.inl rfl) (fun b q _ z => z) ⟨_, oa⟩ (xf_ok oa)
      have hdx : H1 dx = none := by rw [upd_ne ne] at hd; exact hd
      have at5 : ∀ b, b ≠ a → b ≠ dx → (upd (upd H3 dx (.frz od (.xd (fs.zip vs)))) a (.ext (XF a C (some dx)))) b = H1 b := fun b z1 z2 => by rw [upd_ne z1, upd_ne z2, eH, upd_ne z1, upd_ne z2, upd_ne z1]
      have st : ∀ b u, H1 b = some u → (upd (upd H3 dx (.frz od (.xd (fs.zip vs)))) a (.ext (XF a C (some dx)))) b = some u := fun b u z => by
        rw [at5 b (fun y => by rw [y, e0] at z; cases z) (fun y => by rw [y, hdx] at z; cases z)]; exact z
      have k5 : Kp H1 (upd (upd H3 dx (.frz od (.xd (fs.zip vs)))) a (.ext (XF a C (some dx)))) := ⟨fun b xs z => st b _ z, fun b o u z => st b _ z⟩
      have m5 : MAbs X.K (upd (upd H3 dx (.frz od (.xd (fs.zip vs)))) a (.ext (XF a C (some dx)))) (updM M1 a (.exc C (fs.zip ws))) := fun b mo z => by
        by_cases hb : b = a
        · subst hb
          rw [updM_same] at z
          cases z
          exact ⟨_, some dx, upd_same, fun h ⟨vs, y⟩ => ⟨vs, y⟩, .inr ⟨dx, od, fs.zip vs, rfl, by rw [upd_ne ne, upd_same], zip_pair fs (rw1.keep k5)⟩⟩
        · rw [updM_ne hb] at z
          exact (m1 b mo z).keep k5 fun u y => st b u y
      refine ⟨a, C, some dx, u0, rfl, I5.kIn, c.xc.x, c.ty, oa, by rw [← hu0]; rfl, ?_⟩
      exact L pins σ _ s' a τ _ I5 ⟨C, some dx, u0, upd_same, oa, .inl (by rw [← hu0]; rfl)⟩ (A.go (kp.trans k5) m5) (q a (m1.free e0))
end
end D
set_option Elab.async false
set_option linter.all false
set_option maxRecDepth 100000
set_option maxHeartbeats 4000000
namespace L2
open PySem PySem.Spec PyProof.Rows XO
def mixH (H₀ H : Hp) : Hp := fun b => match H b with
  | some (.tup xs) => some (.tup xs)
  | some (.frz o u) => some (.frz o u)
  | _ => H₀ b
theorem mix_tup {H₀ H : Hp} {b : Addr} {xs : List V} (h : H b = some (.tup xs)) : mixH H₀ H b = some (.tup xs) := by unfold mixH; rw [h]
theorem mix_frz {H₀ H : Hp} {b : Addr} {o : Obj} {u : HO} (h : H b = some (.frz o u)) : mixH H₀ H b = some (.frz o u) := by unfold mixH; rw [h]
theorem mix_of {H₀ H : Hp} {b : Addr} {v : HO} (h : mixH H₀ H b = some v) : H₀ b = some v ∨ H b = some v := by
  unfold mixH at h
  split at h
  · rename_i e; rw [e]; exact .inr h
  · rename_i e; rw [e]; exact .inr h
  · exact .inl h
theorem mix_none {H₀ H : Hp} {b : Addr} (h : mixH H₀ H b = none) : H₀ b = none := by
  unfold mixH at h
  split at h
  · cases h
  · cases h
  · exact h
theorem none_mix {H₀ H : Hp} {b : Addr} (h : H₀ b = none) (h2 : H b = none) : mixH H₀ H b = none := by
  unfold mixH; rw [h2]; exact h
abbrev Cx.trying (X : Cx) (H0 : Hp) (pn : List (Addr × Obj)) (xe : Value → Shared → Prop) : Cx := { X with H₀ := H0, pn := pn, xe := xe }
abbrev Cx.caught (X : Cx) (a : Addr) : Cx := { X with A := X.A.mark (some (.ref a)), calm := false, xe := fun _ _ => False }
section
variable {X : Cx} {pins : List (Addr × Obj)} {σ : St} {H : Hp} {s : Shared} {xe : Value → Shared → Prop}
theorem Inv.fsFree (I : Inv X pins σ H s) : ∀ b ∈ X.fs, H b = none := fun b hb => by
  obtain ⟨_, o, ho, _⟩ := I.ok.funs.mem hb
  exact I.base.free b o ho (I.ok.frf b hb) fun z => I.ok.exfs b z hb
theorem Inv.intry (I : Inv X pins σ H s) : Inv (X.trying (mixH X.H₀ H) (X.pn ++ pins) xe) [] σ H s := by
  refine ⟨⟨I.ok.mod, I.ok.kind, I.ok.glob, I.ok.blt, I.ok.above, I.ok.inj, I.ok.has, I.ok.cab, I.ok.hd, I.ok.frames, I.ok.stk, I.ok.exf, fun b o e => ⟨(I.ok.bs b o e).1, none_mix (I.ok.bs b o e).2 (I.bs b o e).2⟩, I.ok.bsz, I.ok.noex, I.ok.exfs, I.ok.funs, fun b hb => none_mix (I.ok.frf b hb) (I.fsFree b hb)⟩,
    I.os, I.bare, ⟨fun b o e n hb hx => I.base.keep b o e (mix_none n) hb hx, fun b o e n hb hx => I.base.slot b o e (mix_none n) hb hx, fun b o e n hx => I.base.free b o e (mix_none n) hx, I.base.there, fun b xs e => ?_, fun b o u e => ?_, fun b ps e => ?_⟩,
    I.loc, I.cell, I.free, I.freeC, fun p hp => I.pin p (by simpa using hp), I.hok, I.len⟩
  · rcases mix_of e with z | z
    · exact I.base.tups b xs z
    · exact z
  · rcases mix_of e with z | z
    · exact I.base.frzs b o u z
    · exact z
  · rcases mix_of e with z | z
    · exact I.base.tbls b ps z
    · exact ⟨#[], by rw [z]; simp⟩
theorem Inv.outof {pins' : List (Addr × Obj)} {σ' : St} {H' : Hp} {s' : Shared} (I : Inv X pins σ H s) (J : Inv (X.trying (mixH X.H₀ H) (X.pn ++ pins) xe) pins' σ' H' s') : Inv X pins σ' H' s' := by
  have nn : ∀ b o, X.s₀.heap.get? b = some o → X.H₀ b = none → b ∉ X.ex → mixH X.H₀ H b = none := fun b o e n hx => none_mix n (I.base.free b o e n hx)
  exact ⟨I.ok, J.os, J.bare, ⟨fun b o e n hb hx => J.base.keep b o e (nn b o e n hx) hb hx, fun b o e n hb hx => J.base.slot b o e (nn b o e n hx) hb hx, fun b o e n hx => J.base.free b o e (nn b o e n hx) hx, J.base.there, fun b xs e => J.base.tups b xs (mix_tup (I.base.tups b xs e)), fun b o u e => J.base.frzs b o u (mix_frz (I.base.frzs b o u e)), fun b ps e => by
    obtain ⟨m1, e1⟩ := I.base.tbls b ps e
    refine J.base.tbls b ps ?_
    show mixH X.H₀ H b = _
    unfold mixH
    rw [e1]; exact e⟩, J.loc, J.cell, J.free, J.freeC, fun p hp => J.pin p (List.mem_append_left _ hp), J.hok, J.len⟩
theorem Inv.caught (I : Inv X pins σ H s) (a : Addr) : Inv (X.caught a) pins σ H s :=
  ⟨⟨I.ok.mod, I.ok.kind, I.ok.glob, I.ok.blt, I.ok.above, I.ok.inj, I.ok.has, I.ok.cab, (fun z => nomatch z), I.ok.frames, I.ok.stk, I.ok.exf, I.ok.bs, I.ok.bsz, I.ok.noex, I.ok.exfs, I.ok.funs, I.ok.frf⟩, I.os, I.bare, I.base, I.loc, I.cell, I.free, I.freeC, I.pin, I.hok, I.len⟩
theorem Inv.uncaught {a : Addr} (ok : X.Ok) (I : Inv (X.caught a) pins σ H s) : Inv X pins σ H s := ⟨ok, I.os, I.bare, I.base, I.loc, I.cell, I.free, I.freeC, I.pin, I.hok, I.len⟩
theorem Inv.gone {m' : Str → Option Value} {h' : Heap} {t' : Nat} (I : Inv X pins σ H s) (hn : h'.Ns X.env.locals m') (sb : Heap.SameBut X.env.locals s.heap h') : Inv X pins (List.replicate σ.length none) H { s with heap := h', toks := t' } := by
  have ne : ∀ b o, X.s₀.heap.get? b = some o → b ≠ X.env.locals := fun b o e => Nat.ne_of_lt (Nat.lt_of_lt_of_le (Heap.lt_size e) I.ok.above)
  refine ⟨I.ok, I.os, I.bare, ⟨fun b o e n hb hx => (sb.2 b (ne b o e)).trans (I.base.keep b o e n hb hx), fun b o e n hb hx => ?_, I.base.free, fun b o e hx => ?_, I.base.tups, I.base.frzs, I.base.tbls⟩, ⟨m', hn, fun i x v e1 e2 e3 => ?_⟩, fun x c e => ?_, I.free, I.freeC, fun p hp => ?_, fun b o e => ?_, by rw [List.length_replicate]; exact I.len⟩
  · obtain ⟨sl, z⟩ := I.base.slot b o e n hb hx
    exact ⟨sl, (sb.2 b (ne b o e)).trans z⟩
  · obtain ⟨o', z⟩ := I.base.there b o e hx
    exact ⟨o', (sb.2 b (ne b o e)).trans z⟩
  · rw [List.getElem?_replicate] at e2
    split at e2 <;> cases e2
  · obtain ⟨v, z⟩ := I.cell x c e
    exact ⟨v, z.sameBut sb (I.cne x c e)⟩
  · obtain ⟨z, n, nl, nf, d⟩ := I.pin p hp
    exact ⟨(sb.2 p.1 nl).trans z, n, nl, nf, d⟩
  · refine (I.hok b o e).stay (fun c u hc q => (sb.2 c fun z => ?_).trans q) (fun _ q => q) fun _ _ q => q
    rcases hc with y | y
    · rw [z] at y; rw [← y, I.free] at e; cases e
    · rw [z, I.free] at y; cases y
theorem Air.flight {M : Model} {A : Around} {E : Value → Shared → Prop} {Q : Unit → Shared → Prop} {a : Addr} (air : Air H s.heap a) (q : Q () s) : wpAny M A (setFlight (.ref a) none) Q E s := by
  obtain ⟨C, dct, vs, e1, e2, tb⟩ := air
  unfold setFlight
  rcases tb with z | ⟨T, oT, ts, z1, z2, z3, z4, z5⟩
  · refine wpAny_bind (wpAny_field e2 rfl z ?_)
    rw [if_neg (by decide)]
    exact wpAny_pure q
  · refine wpAny_bind (wpAny_field e2 rfl z1 ?_)
    rw [if_pos (show (Value.ref T != Value.none) = true from by simp)]
    refine wpAny_setField z3 z4 (Array.getElem?_eq_some_iff.mp z5).1 ?_
    rw [show ((none : Option Addr).elim Value.none fun f => rawInt f) = Value.none from rfl, Heap.update_setField_same s.heap T oT ts 3 .none z3 z4 z5]
    exact q
end
end L2
namespace D
open PySem PySem.Spec PyProof.Rows L2 XO
theorem Abs.forget {K : PySem.W.Frag} {H : Hp} {σ : St} {τ : DS} {M : MH} (h : Abs K H σ τ M) : Abs K H (List.replicate σ.length none) (List.replicate τ.length none) M := by
  refine ⟨by simp [h.len], fun i w e => ?_, h.mem⟩
  rw [List.getElem?_replicate] at e
  split at e <;> cases e
section
variable {X : Cx} {pos np hpos : Pos} {body suite : List Stmt} {b0 : Stmt} {hs : List ExceptHandler} {h0 : ExceptHandler} {tb : XE → TSd} {th rest : Addr → TSd} {ts : TSd}
def PHd (X : Cx) (hs : List ExceptHandler) (th : Addr → TSd) : Prop := ∀ (pins : List (Addr × Obj)) (σ : St) (H : Hp) (s : Shared) (a : Addr) (D : Ends), Inv X pins σ H s → Air H s.heap a → upS X.K (th a) D σ H → wpAny (model X.prog X.w) X.A (handleBy (.ref a) X.env hs) (SP X pins D) X.xe s
def dTry (tb : XE → TSd) (th : Addr → TSd) (D : Ed) (τ : DS) (M : MH) : Prop := tb (fun a τ' M' => th a D τ' M') D τ M
theorem psd_try (hst : X.stack = X.env :: X.outer) (hf : X.env.frame = some X.env.locals)
    (hb : ∀ (H0 : Hp) (pn : List (Addr × Obj)) (xe : Value → Shared → Prop) (E : XE), Lk (X.trying H0 pn xe) E → PassesOwn (model X.prog X.w) X.A X.env xe → PSsd (X.trying H0 pn xe) body (tb E)) (hh : PHd X (h0 :: hs) th) : PSd X (.Try body (h0 :: hs) [] [] pos) (dTry tb th) := by
  intro pins s σ H D I h
  obtain ⟨τ, M, Dd, A, h, k1, k2, k3, k4⟩ := h
  refine wpAny_Try_except ?_
  refine wpAny_mono (hb (mixH X.H₀ H) (X.pn ++ pins) (fun e s1 => wpAny (model X.prog X.w) X.A (noteFrame e X.env) (fun _ s2 => wpAny (model X.prog X.w) X.A (setFlight e none) (fun _ s3 => wpAny (model X.prog X.w) X.A (handleBy e X.env (h0 :: hs)) (SP X pins D) X.xe s3) X.xe s2) X.xe s1)
    (fun a τ' M' => th a Dd τ' M') (fun pins' σ' H' s' a τ' M' J air ab e => ?_) PassesOwn.looking [] s σ H D I.intry ⟨τ, M, Dd, A, h, k1, k2, k3, k4⟩) (fun f s1 q => ?_) fun _ _ z => z
  · have J2 := I.outof J
    have kp : Kp H H' := ⟨fun b xs z => J.base.tups b xs (mix_tup z), fun b o u z => J.base.frzs b o u (mix_frz z)⟩
    refine J2.lookX J2.ok.frames hst hf air fun s3 J3 air3 => hh pins σ' H' s3 a D J3 air3 ⟨τ', M', Dd, ab, e, fun σ2 H2 τ2 M2 k => k1 σ2 H2 τ2 M2 (kp.trans k), fun v H2 w M2 k => k2 v H2 w M2 (kp.trans k), fun σ2 H2 τ2 M2 k => k3 σ2 H2 τ2 M2 (kp.trans k), fun σ2 H2 τ2 M2 k => k4 σ2 H2 τ2 M2 (kp.trans k)⟩
  · cases f with
    | next => obtain ⟨σ', H', J, q⟩ := q; exact wpAny_execs_nil ⟨σ', H', I.outof J, q⟩
    | brk => obtain ⟨σ', H', J, q⟩ := q; exact ⟨σ', H', I.outof J, q⟩
    | cont => obtain ⟨σ', H', J, q⟩ := q; exact ⟨σ', H', I.outof J, q⟩
    | ret u => obtain ⟨v, σ', H', J, r, q⟩ := q; exact ⟨v, σ', H', I.outof J, r, q⟩
theorem ph_none : PHd X hs (fun _ _ _ _ => False) := fun pins σ H s a D I air ⟨τ, M, Dd, _, h, _⟩ => h.elim
def dHand (tab : Addr → Option Bool) (i : Nat) (ts : TSd) (rest : Addr → TSd) (a : Addr) (D : Ed) (τ : DS) (M : MH) : Prop := ∃ C fs b, M a = some (.exc C fs) ∧ tab C = some b ∧
  if b = true then ts { nx := fun τ2 M2 => D.nx (List.replicate τ2.length none) M2, rt := D.rt, bk := fun τ2 M2 => D.bk (List.replicate τ2.length none) M2, ct := fun τ2 M2 => D.ct (List.replicate τ2.length none) M2 } (τ.set i (some (.m a))) M else rest a D τ M
theorem Air.cls {K : PySem.W.Frag} {H : Hp} {h : Heap} {a C : Addr} {M : MH} {fs : List (Str × W)} (air : Air H h a) (m : MAbs K H M) (e : M a = some (.exc C fs)) : ∃ dct vs, h.get? a = some (xobj C dct vs) := by
  obtain ⟨C', dct, vs, e1, e2, _⟩ := air
  obtain ⟨φ, dct', g1, g2, _⟩ := m a _ e
  rw [e1] at g1
  cases g1
  obtain ⟨vs', e3⟩ := g2 h ⟨vs, e2⟩
  exact ⟨_, vs', e3⟩
theorem test_ok {pins : List (Addr × Obj)} {σ : St} {H : Hp} {s : Shared} {a C D : Addr} {x : Str} {b : Bool} {R : Result → Shared → Prop} (I : Inv X pins σ H s) (hg : Gl X x) (hm : X.mg x = some (.ref D)) {dct : Option Addr} {vs : Array Value} (he : s.heap.get? a = some (xobj C dct vs))
    (ht : PySem.W.exmOne X.K (.ref C) (.ref D) = some b) (hdb : (x == ("__debug__" : Str)) = false) (q : R (.ok (if b then .brk else .next)) s) :
    codeAny (model X.prog X.w) (X.A.mark (some (.ref a))) (.handlers (.ref a) [.ExceptHandler (some (.Name x np)) none [] hpos] X.env) R s := by
  refine codeAny_handlers_test (ld_glob (X := X.caught a) (I.caught a) hg hm ?_ hdb)
  exact (PySem.W.exm_one (M := model X.prog X.w) I.kIn ((PySem.W.Looks.ld he).andThen .now) ht).here q
theorem ph_as {x n : Str} {i : Nat} {Dc : Addr} {tab : Addr → Option Bool} (hg : Gl X x) (hm : X.mg x = some (.ref Dc)) (ht : ∀ C b, tab C = some b → PySem.W.exmOne X.K (.ref C) (.ref Dc) = some b) (hN : X.N.Nodup) (hi : X.N[i]? = some n) (hl : X.env.scope.names.lookup n = some .local) (hk : X.env.scope.kind = .function)
    (hsu : ∀ a, PSsd (X.caught a) (b0 :: suite) ts) (hr : PHd X hs rest) (hdb : (x == ("__debug__" : Str)) = false := by decide) : PHd X (.ExceptHandler (some (.Name x np)) (some n) (b0 :: suite) hpos :: hs) (dHand tab i ts rest) := by
  intro pins σ H s a Dn I air h
  obtain ⟨τ, M, Dd, A, ⟨C, fs, b, hma, htb, h⟩, k1, k2, k3, k4⟩ := h
  obtain ⟨dct, vs, he⟩ := Air.cls air A.mem hma
  refine wpAny_handleBy_cons (test_ok I hg hm he (ht C b htb) hdb ?_) (by intro q; cases q)
  cases b with
  | false => exact hr pins σ H s a Dn I air ⟨τ, M, Dd, A, h, k1, k2, k3, k4⟩
  | true =>
    rw [if_pos rfl] at h
    refine codeAny_handlers_suite_as (air.flight ?_)
    refine store_ok (X := X.caught a) (i := i) (v := .ref a) (I.caught a) hN hi (.inl hl) rfl (fun s2 J => ?_) (.inr hl)
    have gone : ∀ {σ3 : St} {H3 : Hp} {s3 : Shared} {Q : Unit → Shared → Prop}, Inv (X.caught a) pins σ3 H3 s3 → (∀ s4, Inv X pins (List.replicate σ3.length none) H3 s4 → Q () s4) → wpAny (model X.prog X.w) X.A (do bindName X.env n .none; unbindBehindTheSuite X.env n hpos) Q X.xe s3 := fun {σ3 H3 s3 Q} J3 q => by
      obtain ⟨m, hn, _⟩ := J3.loc
      refine wpAny_nameGoes hl hn (by rw [hk]; rfl) fun h' m' hn' sb => q _ ((J3.uncaught I.ok).gone hn' sb)
    have ab2 := A.set i (v := .ref a) (w := .m a) rfl
    refine wpAny_mono (hsu a pins s2 _ H { nx := fun σ2 H2 => Dn.nx (List.replicate σ2.length none) H2, rt := Dn.rt, bk := fun σ2 H2 => Dn.bk (List.replicate σ2.length none) H2, ct := fun σ2 H2 => Dn.ct (List.replicate σ2.length none) H2 } J ⟨_, M, _, ab2, h, fun σ2 H2 τ2 M2 kp A2 q => ?_, fun v H2 w M2 kp r m q => k2 v H2 w M2 kp r m q, fun σ2 H2 τ2 M2 kp A2 q => ?_, fun σ2 H2 τ2 M2 kp A2 q => ?_⟩) (fun f s3 q => ?_) fun _ _ z => z.elim
    · exact k1 _ H2 _ M2 kp A2.forget q
    · exact k3 _ H2 _ M2 kp A2.forget q
    · exact k4 _ H2 _ M2 kp A2.forget q
    · cases f with
      | next => obtain ⟨σ3, H3, J3, q⟩ := q; exact gone J3 fun s4 J4 => ⟨_, H3, J4, q⟩
      | brk => obtain ⟨σ3, H3, J3, q⟩ := q; exact gone J3 fun s4 J4 => ⟨_, H3, J4, q⟩
      | cont => obtain ⟨σ3, H3, J3, q⟩ := q; exact gone J3 fun s4 J4 => ⟨_, H3, J4, q⟩
      | ret u => obtain ⟨v, σ3, H3, J3, r, q⟩ := q; exact gone J3 fun s4 J4 => ⟨v, _, H3, J4, r, q⟩
end
end D
set_option Elab.async false
set_option linter.all false
set_option maxRecDepth 100000
set_option maxHeartbeats 4000000
namespace D
open PySem PySem.Spec PyProof.Rows L2 XO
section
variable {X : Cx} {pos p : Pos} {o ce : Expr} {td : TD} {f : Str}
theorem exc_at {pins : List (Addr × Obj)} {σ : St} {H : Hp} {s : Shared} {M : MH} {a C : Addr} {fs : List (Str × W)} (I : Inv X pins σ H s) (m : MAbs X.K H M) (e : M a = some (.exc C fs)) :
    (∃ ox od, PySem.W.InstAt s.heap a ox C od) ∧ (∀ w, fs.lookup f = some w → ∃ v u ox od, RepW X.K H w v ∧ RelV v u ∧ PySem.W.InstAt s.heap a ox C (some od) ∧ PySem.W.lookIn f od = some (some u)) := by
  obtain ⟨φ, dct, e1, e2, e3⟩ := m a _ e
  obtain ⟨vs, hx⟩ := e2 s.heap (I.hok a _ e1).1
  rcases e3 with ⟨rfl, rfl⟩ | ⟨dx, o, l, rfl, e4, pr⟩
  · exact ⟨⟨_, none, hx, rfl, rfl, True.intro⟩, fun w z => nomatch z⟩
  · obtain ⟨ho, mA, n1, r1⟩ := I.hok dx _ e4
    refine ⟨⟨_, some o, hx, rfl, rfl, ho⟩, fun w z => ?_⟩
    have g := fr_lookup f pr
    rw [z] at g
    obtain ⟨v, eb, rb⟩ := OR.some_of g
    obtain ⟨u, hu, ru⟩ := RelO.some_of (v := v) (o := mA f) (by rw [← eb]; exact r1 f)
    obtain ⟨od, g1, g2⟩ := lookIn_ns n1
    exact ⟨v, u, _, od, rb, ru, ⟨hx, rfl, rfl, g1⟩, by rw [g2, hu]⟩
def dXFld (cs : List Addr) (td : TD) (f : Str) (τ : DS) (M : MH) (Q : QD) : Prop := td τ M fun w M1 => ∃ a C fs v, w = .m a ∧ M1 a = some (.exc C fs) ∧ C ∈ cs ∧ fs.lookup f = some v ∧ Q v M1
theorem pd_xfld {cs : List Addr} (hc : ∀ C ∈ cs, XC X.K C ∧ NoAttr X.K C f) (he : PD X o td) (hb : attributeBase o f X.env (eval o X.env) = eval o X.env := by rfl) : PD X (.Attribute o f pos) (dXFld cs td f) := by
  intro pins s σ H Q I h
  obtain ⟨τ, M, Qd, A, h, k⟩ := h
  refine attr_of hb (thn (he pins s σ H (fun x H1 => ∃ w M1, Kp H H1 ∧ RepW X.K H1 w x ∧ MAbs X.K H1 M1 ∧ ∃ a C fs v, w = .m a ∧ M1 a = some (.exc C fs) ∧ C ∈ cs ∧ fs.lookup f = some v ∧ Qd v M1) I ⟨τ, M, _, A, h, fun v H1 w M1 kp r m q => ⟨w, M1, kp, r, m, q⟩⟩)
    fun u s1 ⟨x, H1, I1, rx, w, M1, kp, r1, m1, a, C, fs, v, ew, hma, hC, hl, q⟩ => ?_)
  subst ew
  cases (show x = .ref a from r1)
  obtain rfl : u = Value.ref a := rx
  obtain ⟨v', u', ox, od, rv, ru, J, lo⟩ := (exc_at (f := f) I1 m1 hma).2 v hl
  obtain ⟨xc, na⟩ := hc C hC
  obtain ⟨cd, hcd, hd, _⟩ := xcls_of xc.x
  refine xget I1.kIn xc J (PySem.W.findObj_own (by unfold PySem.W.hasDictIn; rw [hcd]; exact hd) na rfl lo) (handed_of ru) ?_
  exact ⟨v', H1, I1.tok _, ru, k v' H1 v M1 kp rv m1 q⟩
end
end D
set_option Elab.async false
set_option linter.all false
set_option maxRecDepth 100000
set_option maxHeartbeats 4000000
namespace D
open PySem PySem.Spec PyProof.Rows L2 XO
structure Xi (K : PySem.W.Frag) (C : Addr) (qual : Str) (st : Stmt) (ps : List Str) (f : Addr) (fd : FuncData) : Prop where
  fn : Fun K "__init__" qual st f fd
  xm : Xm K C f
  bd : L2.Binds K fd ps []
theorem xi_mk {K : PySem.W.Frag} {C : Addr} {qual : Str} {st : Stmt} {ps : List Str} {f : Addr} {oc : Value} {od an : Option Addr} {osl : Array (Option Value)} {kV doc pm cdv ct : Value} (xc : XC K C) (a : PySem.W.findIn K (.ref C) "__init__" = some (some (.ref f))) (i : PySem.W.typeIn K (.ref f) = some (.type "function"))
    (l : K.lookup f = some ⟨oc, od, .func (PySem.W.fnOf "__init__" qual (defArgs st) (defBody st) (defScope st) .none kV doc pm an cdv ct), osl⟩) (c : PySem.W.codeIn K cdv qual = true) (k : PySem.W.keepIn K (.ref f) = true) (m : xmk K C = true) (ty : PySem.W.typeIn K (.ref C) = some (.type "type")) (kc : PySem.W.keepIn K (.ref C) = true)
    (b : ∀ (kV doc pm : Value) (an : Option Addr) (cdv ct : Value) (us : List Value), us.length = ps.length → bindArgs (PySem.W.fnOf "__init__" qual (defArgs st) (defBody st) (defScope st) .none kV doc pm an cdv ct) ⟨us, []⟩ = pure (ps.zip us)) :
    Xi K C qual st ps f (PySem.W.fnOf "__init__" qual (defArgs st) (defBody st) (defScope st) .none kV doc pm an cdv ct) :=
  have F := fun_mk (st := st) l c k
  ⟨F, ⟨xc, m, ty, a, i, kc⟩, F.binds b⟩
def tabL (l : List (Addr × Bool)) (C : Addr) : Option Bool := l.lookup C
inductive AllT (P : Addr → Bool → Prop) : List (Addr × Bool) → Prop
  | nil : AllT P []
  | cons {a : Addr} {b : Bool} {l : List (Addr × Bool)} : P a b → AllT P l → AllT P ((a, b) :: l)
theorem AllT.of {P : Addr → Bool → Prop} {l : List (Addr × Bool)} (h : AllT P l) : ∀ C b, tabL l C = some b → P C b := by
  induction h with
  | nil => intro C b z; cases z
  | @cons a b l p _ ih =>
    intro C b' z
    unfold tabL at z ih
    rw [List.lookup_cons] at z
    split at z
    · rename_i e
      cases z
      rw [beq_iff_eq.mp e]; exact p
    · exact ih C b' z
inductive AllC (P : Addr → Prop) : List Addr → Prop
  | nil : AllC P []
  | cons {a : Addr} {l : List Addr} : P a → AllC P l → AllC P (a :: l)
theorem AllC.of {P : Addr → Prop} {l : List Addr} (h : AllC P l) : ∀ C ∈ l, P C := by
  induction h with
  | nil => intro C z; cases z
  | cons p _ ih =>
    intro C z
    rcases List.mem_cons.mp z with e | e
    · rw [e]; exact p
    · exact ih C e
theorem lk_never {X : Cx} : Lk X (fun _ _ _ => False) := fun _ _ _ _ _ _ _ _ _ _ h => h.elim
namespace Q
section
variable {X : Cx} {pos p p' apos cpos np hpos : Pos} {k : Nat} {f C : Addr} {fd : FuncData} {ps fs : List Str} {sp : SpX} {x m n : Str} {e o : Expr} {es : List Expr} {t : TAd} {td : TD} {E : XE}
theorem pmX {pl : Sem Bool} (L : Lk X E) (he : Jd (PD X o td)) (c : Cls X.K C) (hm : Meth X.K C m f) (F : FnOk X.prog X.w X.K X.mg X.base (CXE X.prog X.w) k f fd ps (upSpX X.K sp)) (hr : Room k X.A) (hb : L2.Binds X.K fd ps []) (ha : Jd (PAd X (e :: es) t))
    (ht : eval (.Call (.Attribute o m apos) (e :: es) [] pos) X.env = (do
      let ov ← eval o X.env
      standAt apos.atName
      let (f, first) ← holding [ov] (getMethod ov m pl)
      callWith pos f first (backTo pos (starEach (e :: es) X.env)) (backToKw pos (keywordEach [] X.env))) := by rfl)
    (h1 : isSt e = false := by rfl) (h2 : (es.all fun e => !isSt e) = true := by rfl) : Jd (PD X (.Call (.Attribute o m apos) (e :: es) [] pos) (dMethX C m sp E td t)) := ⟨D.pd_methX L he.h c hm F hr hb ha.h ht h1 h2⟩
theorem psd_raise (L : Lk X E) (c : Xm X.K C f) (F : FnOk X.prog X.w X.K X.mg X.base CX0 k f fd ps (xinit C fs)) (hr : Room (k + 1) X.A) (hg : Gl X x) (hm : X.mg x = some (.ref C)) (hb : L2.Binds X.K fd ps []) (ha : Jd (PAd X (e :: es) t))
    (hdb : (x == ("__debug__" : Str)) = false := by decide) (h1 : isSt e = false := by rfl) (h2 : (es.all fun e => !isSt e) = true := by rfl) : Jd (PSd X (.Raise (some (.Call (.Name x p) (e :: es) [] cpos)) none pos) (dRaise C fs E t)) := ⟨D.psd_raise L c F hr hg hm hb ha.h hdb h1 h2⟩
variable {body suite : List Stmt} {b0 : Stmt} {hs : List ExceptHandler} {h0 : ExceptHandler} {tb : XE → TSd} {th rest : Addr → TSd} {ts : TSd}
theorem psd_try (hst : X.stack = X.env :: X.outer) (hf : X.env.frame = some X.env.locals)
    (hb : ∀ (H0 : Hp) (pn : List (Addr × Obj)) (xe : Value → Shared → Prop) (E : XE), Lk (X.trying H0 pn xe) E → PassesOwn (model X.prog X.w) X.A X.env xe → Jd (PSsd (X.trying H0 pn xe) body (tb E))) (hh : Jd (PHd X (h0 :: hs) th)) : Jd (PSd X (.Try body (h0 :: hs) [] [] pos) (dTry tb th)) :=
  ⟨D.psd_try hst hf (fun H0 pn xe E l p => (hb H0 pn xe E l p).h) hh.h⟩
theorem ph_none : Jd (PHd X hs (fun _ _ _ _ => False)) := ⟨D.ph_none⟩
theorem ph_as {i : Nat} {Dc : Addr} {l : List (Addr × Bool)} (hg : Gl X x) (hm : X.mg x = some (.ref Dc)) (ht : AllT (fun C b => PySem.W.exmOne X.K (.ref C) (.ref Dc) = some b) l) (hN : X.N.Nodup) (hi : X.N[i]? = some n) (hl : X.env.scope.names.lookup n = some .local) (hk : X.env.scope.kind = .function)
    (hsu : ∀ a, Jd (PSsd (X.caught a) (b0 :: suite) ts)) (hr : Jd (PHd X hs rest)) (hdb : (x == ("__debug__" : Str)) = false := by decide) : Jd (PHd X (.ExceptHandler (some (.Name x np)) (some n) (b0 :: suite) hpos :: hs) (dHand (tabL l) i ts rest)) :=
  ⟨D.ph_as hg hm ht.of hN hi hl hk (fun a => (hsu a).h) hr.h hdb⟩
theorem pd_xfld {f : Str} {cs : List Addr} (hc : AllC (fun C => XC X.K C ∧ NoAttr X.K C f) cs) (he : Jd (PD X o td)) (hb : attributeBase o f X.env (eval o X.env) = eval o X.env := by rfl) : Jd (PD X (.Attribute o f pos) (dXFld cs td f)) := ⟨D.pd_xfld hc.of he.h hb⟩
end
end Q
end D
set_option Elab.async false
set_option linter.all false
set_option maxRecDepth 100000
set_option maxHeartbeats 4000000
namespace K73
open PySem PySem.Spec PyProof.Rows L2 D Rc Stc
abbrev C_Leases : Addr := 110
abbrev C_Early : Addr := 44
abbrev N_Leases_init : List Str := ["self"]
def t_Leases_init : TSd :=
    dSeq (dFldPut C_Leases (dVar 0) (dNewDic) "last") <|
    dFldPut C_Leases (dVar 0) (dNewDic) "let"


abbrev N_Leases_lease_of : List Str := ["self", "store"]
def t_Leases_lease_of : TSd :=
    dSeq (dIf (dOr (dTest (dDNotIn (dVar 1) (dFld C_Leases (dVar 0) "last"))) (dTest (dDGet (dFld C_Leases (dVar 0) "let") (dVar 1))))
      (dRet (dC (.d .none)))
      (dNext)) <|
    dRet (dDGet (dFld C_Leases (dVar 0) "last") (dVar 1))


abbrev N_Leases_let_go : List Str := ["self", "store"]
def t_Leases_let_go (sp_Leases_lease_of : SpD) : TSd :=
    dSeq (dIf (dTest (dOp (rdIsN false) (dMeth C_Leases "lease_of" sp_Leases_lease_of (dVar 0) (dCons (dVar 1) (dNil))) (dC (.d .none))))
      (dRet (dC (.d (.bool false))))
      (dNext)) <|
    dSeq (dDPut (dFld C_Leases (dVar 0) "let") (dVar 1) (dC (.d (.bool true)))) <|
    dRet (dC (.d (.bool true)))


abbrev N_Early_init : List Str := ["self", "until"]


abbrev N_Leases_token_of : List Str := ["self", "store"]
def t_Leases_token_of : TSd :=
    dSeq (dIf (dTest (dDNotIn (dVar 1) (dFld C_Leases (dVar 0) "last")))
      (dRet (dC (.d (.int 0))))
      (dNext)) <|
    dRet (dOp rdIx (dDGet (dFld C_Leases (dVar 0) "last") (dVar 1)) (dC (.d (.int 1))))


abbrev N_Leases_give : List Str := ["self", "store", "number", "turn", "lease"]
def t_Leases_give (Ex : XE) (sp_Leases_lease_of : SpD) (sp_Leases_token_of : SpD) : TSd :=
    dSeq (dAsg (dMeth C_Leases "lease_of" sp_Leases_lease_of (dVar 0) (dCons (dVar 1) (dNil))) (gN 4)) <|
    dSeq (dIf (dAnd (dTest (dOp (rdIsN true) (dVar 4) (dC (.d .none)))) (dTest (dOp rdLt (dVar 3) (dOp rdIx (dVar 4) (dC (.d (.int 3)))))))
      (dRaise C_Early ["until"] Ex (dCons (dOp rdIx (dVar 4) (dC (.d (.int 3)))) (dNil)))
      (dNext)) <|
    dSeq (dDPut (dFld C_Leases (dVar 0) "last") (dVar 1) (dTup (dCons (dVar 1) (dCons (dOp rdAdd (dMeth C_Leases "token_of" sp_Leases_token_of (dVar 0) (dCons (dVar 1) (dNil))) (dC (.d (.int 1)))) (dCons (dVar 2) (dCons (dOp rdAdd (dVar 3) (dC (.d (.int 6)))) (dNil))))))) <|
    dSeq (dDPut (dFld C_Leases (dVar 0) "let") (dVar 1) (dC (.d (.bool false)))) <|
    dRet (dDGet (dFld C_Leases (dVar 0) "last") (dVar 1))


abbrev N_Leases_until_of : List Str := ["self", "store"]
def t_Leases_until_of : TSd :=
    dSeq (dIf (dTest (dDNotIn (dVar 1) (dFld C_Leases (dVar 0) "last")))
      (dRet (dC (.d (.int 0))))
      (dNext)) <|
    dRet (dOp rdIx (dDGet (dFld C_Leases (dVar 0) "last") (dVar 1)) (dC (.d (.int 3))))


abbrev N_Leases_renew : List Str := ["self", "store", "turn", "lease", "same", "token", "number", "until"]
def t_Leases_renew (Ex : XE) (sp_Leases_lease_of : SpD) (sp_Leases_until_of : SpD) : TSd :=
    dSeq (dAsg (dMeth C_Leases "lease_of" sp_Leases_lease_of (dVar 0) (dCons (dVar 1) (dNil))) (gN 3)) <|
    dSeq (dIf (dOr (dTest (dOp (rdIsN false) (dVar 3) (dC (.d .none)))) (dTest (dOp rdGe (dVar 2) (dOp rdIx (dVar 3) (dC (.d (.int 3)))))))
      (dRaise C_Early ["until"] Ex (dCons (dMeth C_Leases "until_of" sp_Leases_until_of (dVar 0) (dCons (dVar 1) (dNil))) (dNil)))
      (dNext)) <|
    dSeq (dAsg (dVar 3) (gT 4 (gsCons (gN 4) (gsCons (gN 5) (gsCons (gN 6) (gsCons (gN 7) (gsNil))))))) <|
    dSeq (dDPut (dFld C_Leases (dVar 0) "last") (dVar 1) (dTup (dCons (dVar 1) (dCons (dVar 5) (dCons (dVar 6) (dCons (dCB rdMax2 (dCons (dVar 7) (dCons (dOp rdAdd (dVar 2) (dC (.d (.int 6)))) (dNil)))) (dNil))))))) <|
    dRet (dDGet (dFld C_Leases (dVar 0) "last") (dVar 1))


abbrev N_l_renewed : List Str := ["_law_leases", "_law_store", "_law_turn", "e"]
def t_l_renewed (sp_Leases_renew : SpX) : TSd :=
    dTry (fun Ex =>
      dRet (dTup (dCons (dC (.d (.str "told"))) (dCons (dMethX C_Leases "renew" sp_Leases_renew Ex (dVar 0) (dCons (dVar 1) (dCons (dVar 2) (dNil)))) (dNil))))) (dHand (tabL [(C_Early, true)]) 3
      (dRet (dTup (dCons (dC (.d (.str "early"))) (dCons (dXFld [C_Early] (dVar 3) "until") (dNil))))) (fun _ _ _ _ => False))


abbrev N_Leases_all_leases : List Str := ["self"]
def t_Leases_all_leases : TSd :=
    dRet (dCB rdSortT (dCons (dStill (dLC (dDItems (dFld C_Leases (dVar 0) "last")) (gT 2 (gsCons (gN 0) (gsCons (gN 1) (gsNil)))) (dNot (dTest (dDGet (dFld C_Leases (dVar 2) "let") (dVar 0)))) (dVar 1) 2 [0])) (dNil)))


abbrev N_l_gone : List Str := ["_law_leases", "_law_store", "_law_lease", "_law_turn", "_law_others"]
def t_l_gone (sp_l_renewed : SpD) (sp_Leases_all_leases : SpD) (sp_Leases_lease_of : SpD) (sp_Leases_token_of : SpD) (sp_Leases_let_go : SpD) : TSd :=
    dSeq (dFor (dItems (dLst (dCons (dC (.d .none)) (dCons (dC (.d (.int 0))) (dCons (dOp rdSub (dOp rdIx (dVar 2) (dC (.d (.int 3)))) (dC (.d (.int 1)))) (dCons (dOp rdIx (dVar 2) (dC (.d (.int 3)))) (dCons (dOp rdAdd (dOp rdIx (dVar 2) (dC (.d (.int 3)))) (dC (.d (.int 5)))) (dNil)))))))) (gN 3)
      (dSeq (dIf (dAnd (dTest (dOp (rdIsN true) (dVar 3) (dC (.d .none)))) (dTest (dOp rdNeT (dCall sp_l_renewed (dCons (dVar 0) (dCons (dVar 1) (dCons (dVar 3) (dNil))))) (dTup (dCons (dC (.d (.str "early"))) (dCons (dOp rdIx (dVar 2) (dC (.d (.int 3)))) (dNil)))))))
        (dRet (dC (.d (.bool false))))
        (dNext)) <|
      dSeq (dAsg (dLC (dItems (dSeal (dMeth C_Leases "all_leases" sp_Leases_all_leases (dVar 0) dNil))) (gN 0) (dTest (dOp rdEqT (dOp rdIx (dVar 0) (dC (.d (.int 0)))) (dVar 1))) (dVar 0) 1 [1]) (gN 4)) <|
      dIf (dOr (dTest (dOp rdNeT (dVar 4) (dLst (dNil)))) (dOr (dTest (dOp (rdIsN true) (dMeth C_Leases "lease_of" sp_Leases_lease_of (dVar 0) (dCons (dVar 1) (dNil))) (dC (.d .none)))) (dTest (dOp rdNeT (dMeth C_Leases "token_of" sp_Leases_token_of (dVar 0) (dCons (dVar 1) (dNil))) (dOp rdIx (dVar 2) (dC (.d (.int 1))))))))
        (dRet (dC (.d (.bool false))))
        (dNext))) <|
    dRet (dOp (rdIsB false) (dMeth C_Leases "let_go" sp_Leases_let_go (dVar 0) (dCons (dVar 1) (dNil))) (dC (.d (.bool false))))


abbrev N_law : List Str := ["_law_script", "_law_bag_here", "_law_stores_here", "_law_leases", "_law_store", "_law_lasting", "_law_k", "_law_lease", "_law_beside", "_law_turn", "_law_number", "_law_later"]
def t_law (sp_l_bag : SpD) (sp_l_stores : SpD) (sp_Leases_init : SpD) (sp_Leases_let_go : SpD) (sp_Leases_give : SpX) (sp_l_take : SpD) (sp_l_gone : SpD) (sp_Leases_all_leases : SpD) (sp_Leases_renew : SpX) : TSd :=
    dSeq (dAsg (dCall sp_l_bag (dCons (dVar 0) (dNil))) (gN 1)) <|
    dSeq (dAsg (dCall sp_l_stores (dCons (dVar 1) (dNil))) (gN 2)) <|
    dSeq (dAsg (dMake C_Leases sp_Leases_init dNil) (gN 3)) <|
    dSeq (dFor (dItems (dVar 2)) (gN 4)
      (dIf (dTest (dOp (rdIsB true) (dMeth C_Leases "let_go" sp_Leases_let_go (dVar 3) (dCons (dVar 4) (dNil))) (dC (.d (.bool false)))))
        (dRet (dC (.d (.bool false))))
        (dNext))) <|
    dSeq (dAsg (dNewDic) (gN 5)) <|
    dSeq (dFor (dItems (dVar 2)) (gN 4)
      (dDPut (dVar 5) (dVar 4) (dMethX C_Leases "give" sp_Leases_give (fun _ _ _ => False) (dVar 3) (dCons (dVar 4) (dCons (dOp rdAdd (dC (.d (.int 1))) (dCall sp_l_take (dCons (dVar 1) (dCons (dC (.d (.int 9))) (dNil))))) (dCons (dCall sp_l_take (dCons (dVar 1) (dCons (dC (.d (.int 30))) (dNil)))) (dNil))))))) <|
    dSeq (dFor (dRng1 (dCons (dOp rdAdd (dC (.d (.int 4))) (dCall sp_l_take (dCons (dVar 1) (dCons (dC (.d (.int 17))) (dNil))))) (dNil))) (gN 6)
      (dSeq (dAsg (dOp rdIx (dVar 2) (dCall sp_l_take (dCons (dVar 1) (dCons (dCB rdLen (dCons (dVar 2) (dNil))) (dNil))))) (gN 4)) <|
      dSeq (dAsg (dDGet (dVar 5) (dVar 4)) (gN 7)) <|
      dSeq (dAsg (dLC (dItems (dSeal (dCB rdSortD (dCons (dVar 5) (dNil))))) (gN 0) (dTest (dOp rdNeT (dVar 0) (dVar 2))) (dDGet (dVar 1) (dVar 0)) 1 [5, 4]) (gN 8)) <|
      dSeq (dIf (dOr (dTest (dOp (rdIsB true) (dMeth C_Leases "let_go" sp_Leases_let_go (dVar 3) (dCons (dVar 4) (dNil))) (dC (.d (.bool true))))) (dNot (dTest (dCall sp_l_gone (dCons (dVar 3) (dCons (dVar 4) (dCons (dVar 7) (dNil))))))))
        (dRet (dC (.d (.bool false))))
        (dNext)) <|
      dSeq (dIf (dTest (dOp rdNeT (dMeth C_Leases "all_leases" sp_Leases_all_leases (dVar 3) dNil) (dVar 8)))
        (dRet (dC (.d (.bool false))))
        (dNext)) <|
      dSeq (dAsg (dCB rdMax2 (dCons (dC (.d (.int 0))) (dCons (dOp rdAdd (dOp rdSub (dOp rdIx (dVar 7) (dC (.d (.int 3)))) (dC (.d (.int 8)))) (dCall sp_l_take (dCons (dVar 1) (dCons (dC (.d (.int 12))) (dNil))))) (dNil)))) (gN 9)) <|
      dSeq (dAsg (dOp rdIx (dLst (dCons (dOp rdIx (dVar 7) (dC (.d (.int 2)))) (dCons (dOp rdAdd (dC (.d (.int 1))) (dCall sp_l_take (dCons (dVar 1) (dCons (dC (.d (.int 9))) (dNil))))) (dNil)))) (dCall sp_l_take (dCons (dVar 1) (dCons (dC (.d (.int 2))) (dNil))))) (gN 10)) <|
      dSeq (dDPut (dVar 5) (dVar 4) (dMethX C_Leases "give" sp_Leases_give (fun _ _ _ => False) (dVar 3) (dCons (dVar 4) (dCons (dVar 10) (dCons (dVar 9) (dNil)))))) <|
      dSeq (dIf (dTest (dOp rdNeT (dDGet (dVar 5) (dVar 4)) (dTup (dCons (dVar 4) (dCons (dOp rdAdd (dOp rdIx (dVar 7) (dC (.d (.int 1)))) (dC (.d (.int 1)))) (dCons (dVar 10) (dCons (dOp rdAdd (dVar 9) (dC (.d (.int 6)))) (dNil))))))))
        (dRet (dC (.d (.bool false))))
        (dNext)) <|
      dIf (dTest (dOp rdEqT (dCall sp_l_take (dCons (dVar 1) (dCons (dC (.d (.int 2))) (dNil)))) (dC (.d (.int 0)))))
        (dSeq (dAsg (dOp rdAdd (dVar 9) (dCall sp_l_take (dCons (dVar 1) (dCons (dC (.d (.int 6))) (dNil))))) (gN 11)) <|
        dSeq (dDPut (dVar 5) (dVar 4) (dMethX C_Leases "renew" sp_Leases_renew (fun _ _ _ => False) (dVar 3) (dCons (dVar 4) (dCons (dVar 11) (dNil))))) <|
        dIf (dTest (dOp rdNeT (dDGet (dVar 5) (dVar 4)) (dTup (dCons (dVar 4) (dCons (dOp rdAdd (dOp rdIx (dVar 7) (dC (.d (.int 1)))) (dC (.d (.int 1)))) (dCons (dVar 10) (dCons (dOp rdAdd (dVar 11) (dC (.d (.int 6)))) (dNil))))))))
          (dRet (dC (.d (.bool false))))
          (dNext))
        (dNext))) <|
    dRet (dOp rdEqT (dMeth C_Leases "all_leases" sp_Leases_all_leases (dVar 3) dNil) (dLC (dItems (dSeal (dCB rdSortD (dCons (dVar 5) (dNil))))) (gN 0) (dYes) (dDGet (dVar 1) (dVar 0)) 1 [5]))
structure Lz where
  name : Str
  tok : Int
  num : Int
  unt : Int
  held : Bool
def rowZ (z : Lz) : List PyData := [.str z.name, .int z.tok, .int z.num, .int z.unt]
def lzD (z : Lz) : PyData := .tuple (rowZ z)
def lB (z : Lz) : PyData := .bool (!z.held)
abbrev flz (d1 d2 : Addr) : List (Str × W) := [("last", .m d1), ("let", .m d2)]
theorem lk_last {d1 d2 : Addr} : (flz d1 d2).lookup ("last" : Str) = some (.m d1) := rfl
theorem lk_let {d1 d2 : Addr} : (flz d1 d2).lookup ("let" : Str) = some (.m d2) := rfl
theorem lk_lof {d1 d2 : Addr} : (flz d1 d2).lookup ("lease_of" : Str) = none := rfl
theorem lk_tof {d1 d2 : Addr} : (flz d1 d2).lookup ("token_of" : Str) = none := rfl
theorem lk_give {d1 d2 : Addr} : (flz d1 d2).lookup ("give" : Str) = none := rfl
theorem lk_renew {d1 d2 : Addr} : (flz d1 d2).lookup ("renew" : Str) = none := rfl
theorem lk_go {d1 d2 : Addr} : (flz d1 d2).lookup ("let_go" : Str) = none := rfl
theorem lk_all {d1 d2 : Addr} : (flz d1 d2).lookup ("all_leases" : Str) = none := rfl
structure Ls (M : MH) (s d1 d2 : Addr) (L : List Lz) : Prop where
  hs : M s = some (.ins C_Leases (flz d1 d2))
  h1 : M d1 = some (.dic (dataKV (rk Lz.name lzD L)))
  h2 : M d2 = some (.dic (dataKV (rk Lz.name lB L)))
  ne : d1 ≠ d2
theorem Ls.n1 {M : MH} {s d1 d2 : Addr} {L : List Lz} (h : Ls M s d1 d2 L) : s ≠ d1 := ne_M h.hs h.h1 (by intro z; cases z)
theorem Ls.n2 {M : MH} {s d1 d2 : Addr} {L : List Lz} (h : Ls M s d1 d2 L) : s ≠ d2 := ne_M h.hs h.h2 (by intro z; cases z)
theorem Ls.keep {M M' : MH} {s d1 d2 : Addr} {L : List Lz} (h : Ls M s d1 d2 L) (k : ∀ q, q = s ∨ q = d1 ∨ q = d2 → M' q = M q) : Ls M' s d1 d2 L :=
  ⟨by rw [k s (.inl rfl)]; exact h.hs, by rw [k d1 (.inr (.inl rfl))]; exact h.h1, by rw [k d2 (.inr (.inr rfl))]; exact h.h2, h.ne⟩
theorem rk_len {g : Lz → PyData} (L : List Lz) : (dataKV (rk Lz.name g L)).length = L.length := by simp [dataKV, rk]
def sp_Leases_init : SpD := fun ws M Q => ∃ s, ws = [.m s] ∧ M s = some (.ins C_Leases []) ∧ ∀ d1 d2 M', M d1 = none → M d2 = none → Ls M' s d1 d2 [] → (∀ q, q ≠ s → q ≠ d1 → q ≠ d2 → M' q = M q) → Q (.d .none) M'
theorem len_Leases_init : ∀ ws M Q, sp_Leases_init ws M Q → ws.length = 1 := by rintro ws M Q ⟨s, rfl, _⟩; rfl
theorem read_Leases_init : ∀ ws M Q, sp_Leases_init ws M Q → t_Leases_init { nx := fun _ M' => Q (.d .none) M', rt := Q } (startD N_Leases_init ws) M := by
  rintro ws M Q ⟨s, rfl, hs, k⟩
  refine fun d1 hd1 => ⟨_, rfl, s, _, rfl, upd_get hs hd1, by decide, fun d2 hd2 => ⟨_, rfl, s, _, rfl, upd_get updM_same hd2, (by show 1 < 1000; decide), ?_⟩⟩
  have n1 : s ≠ d1 := ne_new hs hd1
  have hd2' : updM (updM M d1 (.dic [])) s (.ins C_Leases (putW "last" (.m d1) [])) d2 = none := hd2
  have n2 : d2 ≠ s := fun e => by rw [e, updM_same] at hd2'; cases hd2'
  have n3 : d2 ≠ d1 := fun e => by rw [updM_ne (e ▸ n1.symm), e, updM_same] at hd2'; cases hd2'
  have hd2M : M d2 = none := by rw [updM_ne n2, updM_ne n3] at hd2'; exact hd2'
  refine k d1 d2 _ hd1 hd2M ⟨?_, ?_, ?_, n3.symm⟩ fun q q1 q2 q3 => ?_
  · rw [updM_same]; rfl
  · rw [updM_ne n1.symm, updM_ne n3.symm, updM_ne n1.symm, updM_same]; rfl
  · rw [updM_ne n2, updM_same]; rfl
  · rw [updM_ne q1, updM_ne q3, updM_ne q1, updM_ne q2]
def leaseD (L : List Lz) (n : Str) : PyData := match fd Lz.name L n with
  | some z => if z.held = true then lzD z else .none
  | none => .none
def sp_Leases_lease_of : SpD := fun ws M Q => ∃ (s d1 d2 : Addr) (L : List Lz) (n : Str), ws = [.m s, .d (.str n)] ∧ Ls M s d1 d2 L ∧ Q (.d (leaseD L n)) M
theorem len_Leases_lease_of : ∀ ws M Q, sp_Leases_lease_of ws M Q → ws.length = 2 := by rintro ws M Q ⟨s, d1, d2, L, n, rfl, _⟩; rfl
theorem read_Leases_lease_of : ∀ ws M Q, sp_Leases_lease_of ws M Q → t_Leases_lease_of { nx := fun _ M' => Q (.d .none) M', rt := Q } (startD N_Leases_lease_of ws) M := by
  rintro ws M Q ⟨s, d1, d2, L, n, rfl, H, k⟩
  refine ⟨_, rfl, _, rfl, s, _, _, rfl, H.hs, lk_last, _, .k (k := .inr n) H.h1, _, rfl, ?_⟩
  have t1 := tget_rk (nm := Lz.name) lzD L n
  have t2 := tget_rk (nm := Lz.name) lB L n
  rw [t1]
  unfold leaseD at k
  cases e : fd Lz.name L n with
  | none =>
    rw [e] at k
    exact iteT (iteT k)
  | some z =>
    rw [e] at k t1 t2
    refine iteF ⟨_, rfl, s, _, _, rfl, H.hs, lk_let, _, rfl, d2, _, .inr n, _, rfl, .inl H.h2, rfl, t2, _, rfl, ?_⟩
    dsimp only at k
    cases hh : z.held with
    | false => rw [hh] at k; exact iteT k
    | true =>
      rw [hh] at k
      exact iteF ⟨_, rfl, s, _, _, rfl, H.hs, lk_last, _, rfl, d1, _, .inr n, _, rfl, .inl H.h1, rfl, t1, k⟩
def tokL (L : List Lz) (n : Str) : Int := match fd Lz.name L n with
  | some z => z.tok
  | none => 0
def sp_Leases_token_of : SpD := fun ws M Q => ∃ (s d1 d2 : Addr) (L : List Lz) (n : Str), ws = [.m s, .d (.str n)] ∧ Ls M s d1 d2 L ∧ Q (.d (.int (tokL L n))) M
theorem len_Leases_token_of : ∀ ws M Q, sp_Leases_token_of ws M Q → ws.length = 2 := by rintro ws M Q ⟨s, d1, d2, L, n, rfl, _⟩; rfl
theorem read_Leases_token_of : ∀ ws M Q, sp_Leases_token_of ws M Q → t_Leases_token_of { nx := fun _ M' => Q (.d .none) M', rt := Q } (startD N_Leases_token_of ws) M := by
  rintro ws M Q ⟨s, d1, d2, L, n, rfl, H, k⟩
  refine ⟨_, rfl, _, rfl, s, _, _, rfl, H.hs, lk_last, _, .k (k := .inr n) H.h1, _, rfl, ?_⟩
  have t1 := tget_rk (nm := Lz.name) lzD L n
  rw [t1]
  unfold tokL at k
  cases e : fd Lz.name L n with
  | none => rw [e] at k; exact iteT k
  | some z =>
    rw [e] at k t1
    exact iteF ⟨_, rfl, s, _, _, rfl, H.hs, lk_last, _, rfl, d1, _, .inr n, _, rfl, .inl H.h1, rfl, t1, _, _, rfl, rfl, rfl, k⟩
theorem heldRow {L : List Lz} {n : Str} {z : Lz} (e : fd Lz.name L n = some z) (hh : z.held = true) : leaseD L n = lzD z := by
  unfold leaseD
  rw [e]
  simp [hh]
theorem offRow {L : List Lz} {n : Str} {z : Lz} (e : fd Lz.name L n = some z) (hh : z.held = false) : leaseD L n = .none := by
  unfold leaseD
  rw [e]
  simp [hh]
theorem noRow {L : List Lz} {n : Str} (e : fd Lz.name L n = none) : leaseD L n = .none := by
  unfold leaseD
  rw [e]
def mkG (L : List Lz) (n : Str) (num t : Int) : Lz := ⟨n, tokL L n + 1, num, t + 6, true⟩
def untL (L : List Lz) (n : Str) : Int := match fd Lz.name L n with
  | some z => z.unt
  | none => 0
theorem lk_uof {d1 d2 : Addr} : (flz d1 d2).lookup ("until_of" : Str) = none := rfl
def sp_Leases_until_of : SpD := fun ws M Q => ∃ (s d1 d2 : Addr) (L : List Lz) (n : Str), ws = [.m s, .d (.str n)] ∧ Ls M s d1 d2 L ∧ Q (.d (.int (untL L n))) M
theorem len_Leases_until_of : ∀ ws M Q, sp_Leases_until_of ws M Q → ws.length = 2 := by rintro ws M Q ⟨s, d1, d2, L, n, rfl, _⟩; rfl
theorem read_Leases_until_of : ∀ ws M Q, sp_Leases_until_of ws M Q → t_Leases_until_of { nx := fun _ M' => Q (.d .none) M', rt := Q } (startD N_Leases_until_of ws) M := by
  rintro ws M Q ⟨s, d1, d2, L, n, rfl, H, k⟩
  refine ⟨_, rfl, _, rfl, s, _, _, rfl, H.hs, lk_last, _, .k (k := .inr n) H.h1, _, rfl, ?_⟩
  have t1 := tget_rk (nm := Lz.name) lzD L n
  rw [t1]
  unfold untL at k
  cases e : fd Lz.name L n with
  | none => rw [e] at k; exact iteT k
  | some z =>
    rw [e] at k t1
    exact iteF ⟨_, rfl, s, _, _, rfl, H.hs, lk_last, _, rfl, d1, _, .inr n, _, rfl, .inl H.h1, rfl, t1, _, _, rfl, rfl, rfl, k⟩
theorem few1 {w : W} : [w].length ≤ 1000 := by simp
abbrev eX (u : Int) : MO := .exc C_Early [("until", .d (.int u))]
def sp_Leases_give : SpX := fun ws M Q E => ∃ (s d1 d2 : Addr) (L : List Lz) (n : Str) (num t : Int), ws = [.m s, .d (.str n), .d (.int num), .d (.int t)] ∧ Ls M s d1 d2 L ∧ L.length ≤ 1000 ∧ (∀ z, fd Lz.name L n = some z → z.held = true → t < z.unt → ∀ a, M a = none → E a (updM M a (eX z.unt))) ∧
  ((∀ z, fd Lz.name L n = some z → z.held = true → ¬ t < z.unt) → ∀ M', Ls M' s d1 d2 (pt Lz.name L (mkG L n num t)) → (∀ q, q ≠ d1 → q ≠ d2 → M' q = M q) → Q (.d (lzD (mkG L n num t))) M')
theorem len_Leases_give : ∀ ws M Q E, sp_Leases_give ws M Q E → ws.length = 4 := by rintro ws M Q E ⟨s, d1, d2, L, n, num, t, rfl, _⟩; rfl
theorem read_Leases_give : ∀ ws M Q E, sp_Leases_give ws M Q E → t_Leases_give (fun a _ M => E a M) sp_Leases_lease_of sp_Leases_token_of { nx := fun _ M' => Q (.d .none) M', rt := Q } (startD N_Leases_give ws) M := by
  rintro ws M Q E ⟨s, d1, d2, L, n, num, t, rfl, H, hl, hex, k⟩
  have s16' := s16
  refine ⟨_, rfl, s, _, rfl, H.hs, lk_lof, _, rfl, s, d1, d2, L, n, rfl, H, ?_⟩
  have rest : (∀ z, fd Lz.name L n = some z → z.held = true → ¬ t < z.unt) → ∀ x, (dSeq (dDPut (dFld C_Leases (dVar 0) "last") (dVar 1) (dTup (dCons (dVar 1) (dCons (dOp rdAdd (dMeth C_Leases "token_of" sp_Leases_token_of (dVar 0) (dCons (dVar 1) (dNil))) (dC (.d (.int 1)))) (dCons (dVar 2) (dCons (dOp rdAdd (dVar 3) (dC (.d (.int 6)))) (dNil))))))) <|
      dSeq (dDPut (dFld C_Leases (dVar 0) "let") (dVar 1) (dC (.d (.bool false)))) <|
      dRet (dDGet (dFld C_Leases (dVar 0) "last") (dVar 1))) { nx := fun _ M' => Q (.d .none) M', rt := Q } [some (.m s), some (.d (.str n)), some (.d (.int num)), some (.d (.int t)), some x] M := by
    intro hno x
    refine ⟨_, rfl, _, rfl, s, _, rfl, H.hs, lk_tof, _, rfl, s, d1, d2, L, n, rfl, H, .inl ⟨_, _, rfl, rfl, _, rfl, _, rfl, .inl ⟨_, _, rfl, rfl, _, rfl, few (by simp), ?_⟩⟩⟩
    refine ⟨_, rfl, s, _, _, rfl, H.hs, lk_last, _, rfl, d1, _, .inr n, rfl, H.h1, rfl, by rw [rk_len]; omega, ?_⟩
    rw [show W.d (.tuple [.str n, .int (tokL L n + 1), .int num, .int (t + 6)]) = .d (lzD (mkG L n num t)) from rfl, tput_rk (nm := Lz.name) lzD L (mkG L n num t) (n := n) rfl]
    have n1 := H.n1
    have n2 := H.n2
    have ne := H.ne
    refine ⟨_, rfl, s, _, _, rfl, by rw [updM_ne n1]; exact H.hs, lk_let, _, rfl, d2, _, .inr n, rfl, by rw [updM_ne ne.symm]; exact H.h2, rfl, by rw [rk_len]; omega, ?_⟩
    rw [show W.d (.bool false) = .d (lB (mkG L n num t)) from rfl, tput_rk (nm := Lz.name) lB L (mkG L n num t) (n := n) rfl]
    have tg : tget (dataKV (rk Lz.name lzD (pt Lz.name L (mkG L n num t)))) (.inr n) = some (.d (lzD (mkG L n num t))) := by
      rw [tget_rk, fd_pt, if_pos (show (mkG L n num t).name = n from rfl)]; rfl
    refine ⟨_, rfl, s, _, _, rfl, by rw [updM_ne n2, updM_ne n1]; exact H.hs, lk_last, _, rfl, d1, _, .inr n, _, rfl, .inl (by rw [updM_ne ne, updM_same]), rfl, tg, ?_⟩
    exact k hno _ ⟨by rw [updM_ne n2, updM_ne n1]; exact H.hs, by rw [updM_ne ne, updM_same], updM_same, ne⟩ fun q q1 q2 => by rw [updM_ne q2, updM_ne q1]
  cases e : fd Lz.name L n with
  | none =>
    rw [noRow e]
    exact ⟨_, rfl, rfl, _, rfl, iteF (iteF (rest (fun z e' => by rw [e] at e'; cases e') _))⟩
  | some z =>
    cases hh : z.held with
    | false =>
      rw [offRow e hh]
      exact ⟨_, rfl, rfl, _, rfl, iteF (iteF (rest (fun z e' h' => by rw [e] at e'; cases e'; rw [hh] at h'; cases h') _))⟩
    | true =>
      rw [heldRow e hh]
      refine ⟨_, rfl, rfl, _, rfl, iteT ⟨_, rfl, _, rfl, _, _, rfl, rfl, rfl, _, _, rfl, rfl, _, rfl, ?_⟩⟩
      by_cases lt : t < z.unt
      · rw [decide_eq_true lt]
        exact iteT ⟨_, rfl, _, _, rfl, rfl, rfl, rfl, few1, fun a ha => hex z e hh lt a ha⟩
      · rw [decide_eq_false lt]
        exact iteF (rest (fun z' e' h' => by rw [e] at e'; cases e'; exact lt) _)
def heldL (L : List Lz) (n : Str) : Bool := match fd Lz.name L n with
  | some z => z.held
  | none => false
def goL (L : List Lz) (n : Str) : List Lz := match fd Lz.name L n with
  | some z => if z.held = true then pt Lz.name L { z with held := false } else L
  | none => L
def sp_Leases_let_go : SpD := fun ws M Q => ∃ (s d1 d2 : Addr) (L : List Lz) (n : Str), ws = [.m s, .d (.str n)] ∧ Ls M s d1 d2 L ∧ L.length ≤ 1000 ∧ (L.map Lz.name).Nodup ∧ ∀ M', Ls M' s d1 d2 (goL L n) → (∀ q, q ≠ d1 → q ≠ d2 → M' q = M q) → Q (.d (.bool (heldL L n))) M'
theorem len_Leases_let_go : ∀ ws M Q, sp_Leases_let_go ws M Q → ws.length = 2 := by rintro ws M Q ⟨s, d1, d2, L, n, rfl, _⟩; rfl
theorem read_Leases_let_go : ∀ ws M Q, sp_Leases_let_go ws M Q → t_Leases_let_go sp_Leases_lease_of { nx := fun _ M' => Q (.d .none) M', rt := Q } (startD N_Leases_let_go ws) M := by
  rintro ws M Q ⟨s, d1, d2, L, n, rfl, H, hl, nd, k⟩
  have s16' := s16
  refine ⟨_, rfl, s, _, rfl, H.hs, lk_lof, _, rfl, s, d1, d2, L, n, rfl, H, rfl, _, rfl, ?_⟩
  unfold goL heldL at k
  cases e : fd Lz.name L n with
  | none =>
    rw [e] at k
    rw [noRow e]
    exact iteT (k M H fun _ _ _ => rfl)
  | some z =>
    rw [e] at k
    dsimp only at k
    cases hh : z.held with
    | false =>
      rw [hh] at k
      rw [offRow e hh]
      exact iteT (k M H fun _ _ _ => rfl)
    | true =>
      rw [hh] at k
      rw [heldRow e hh]
      have en : z.name = n := (fd_mem e).2
      refine iteF ⟨_, rfl, s, _, _, rfl, H.hs, lk_let, _, rfl, d2, _, .inr n, rfl, H.h2, rfl, by rw [rk_len]; omega, ?_⟩
      rw [show W.d (.bool true) = .d (lB { z with held := false }) from rfl, tput_rk (nm := Lz.name) lB L { z with held := false } (n := n) en]
      refine k _ ⟨by rw [updM_ne H.n2]; exact H.hs, ?_, updM_same, H.ne⟩ fun q _ q2 => updM_ne q2
      rw [updM_ne H.ne, H.h1]
      have := rk_pt_same (nm := Lz.name) lzD L { z with held := false } (x := z) (by rw [← en] at e; exact e) fun y hy ey => by
        have : y = z := one_of nd hy (fd_mem e).1 ey
        rw [this]
        rfl
      rw [← this]
      rfl
def mx (a b : Int) : Int := if b > a then b else a
def reZ (z : Lz) (t : Int) : Lz := { z with unt := mx z.unt (t + 6) }
def sp_Leases_renew : SpX := fun ws M Q E => ∃ (s d1 d2 : Addr) (L : List Lz) (n : Str) (t : Int), ws = [.m s, .d (.str n), .d (.int t)] ∧ Ls M s d1 d2 L ∧ L.length ≤ 1000 ∧ (L.map Lz.name).Nodup ∧ ((∀ z, fd Lz.name L n = some z → z.held = true → ¬ t < z.unt) → ∀ a, M a = none → E a (updM M a (eX (untL L n)))) ∧
  ∀ z, fd Lz.name L n = some z → z.held = true → t < z.unt → ∀ M', Ls M' s d1 d2 (pt Lz.name L (reZ z t)) → (∀ q, q ≠ d1 → q ≠ d2 → M' q = M q) → Q (.d (lzD (reZ z t))) M'
theorem len_Leases_renew : ∀ ws M Q E, sp_Leases_renew ws M Q E → ws.length = 3 := by rintro ws M Q E ⟨s, d1, d2, L, n, t, rfl, _⟩; rfl
theorem read_Leases_renew : ∀ ws M Q E, sp_Leases_renew ws M Q E → t_Leases_renew (fun a _ M => E a M) sp_Leases_lease_of sp_Leases_until_of { nx := fun _ M' => Q (.d .none) M', rt := Q } (startD N_Leases_renew ws) M := by
  rintro ws M Q E ⟨s, d1, d2, L, n, t, rfl, H, hl, nd, hex, k⟩
  have s16' := s16
  refine ⟨_, rfl, s, _, rfl, H.hs, lk_lof, _, rfl, s, d1, d2, L, n, rfl, H, ?_⟩
  have no : ∀ (D : Ed) (τ : DS), τ[0]? = some (some (.m s)) → τ[1]? = some (some (.d (.str n))) → (∀ z, fd Lz.name L n = some z → z.held = true → ¬ t < z.unt) → dRaise C_Early ["until"] (fun a _ M => E a M) (dCons (dMeth C_Leases "until_of" sp_Leases_until_of (dVar 0) (dCons (dVar 1) (dNil))) (dNil)) D τ M := by
    intro D τ h0 h1 hno
    exact ⟨_, h0, s, _, rfl, H.hs, lk_uof, _, h1, s, d1, d2, L, n, rfl, H, rfl, few1, fun a ha => hex hno a ha⟩
  by_cases hc : ∃ z, fd Lz.name L n = some z ∧ z.held = true ∧ t < z.unt
  case neg =>
    have hno : ∀ z, fd Lz.name L n = some z → z.held = true → ¬ t < z.unt := fun z e h1 h2 => hc ⟨z, e, h1, h2⟩
    cases e : fd Lz.name L n with
    | none =>
      rw [noRow e]
      exact ⟨_, rfl, rfl, _, rfl, iteT (iteT (no _ _ rfl rfl hno))⟩
    | some z =>
      cases hh : z.held with
      | false =>
        rw [offRow e hh]
        exact ⟨_, rfl, rfl, _, rfl, iteT (iteT (no _ _ rfl rfl hno))⟩
      | true =>
        rw [heldRow e hh]
        refine ⟨_, rfl, rfl, _, rfl, iteF ⟨_, rfl, _, rfl, _, _, rfl, rfl, rfl, _, _, rfl, rfl, _, rfl, ?_⟩⟩
        rw [decide_eq_true (by have := hno z e hh; omega)]
        exact iteT (no _ _ rfl rfl hno)
  obtain ⟨z, e, hh, ht⟩ := hc
  have k := k z e hh ht
  have en : z.name = n := (fd_mem e).2
  rw [heldRow e hh]
  refine ⟨_, rfl, rfl, _, rfl, iteF ⟨_, rfl, _, rfl, _, _, rfl, rfl, rfl, _, _, rfl, rfl, _, rfl, ?_⟩⟩
  rw [decide_eq_false (by omega)]
  refine iteF ⟨_, rfl, _, rfl, rfl, _, _, rfl, _, _, rfl, _, _, rfl, _, _, rfl, rfl, ?_⟩
  refine ⟨_, rfl, _, rfl, _, rfl, _, rfl, _, rfl, .inl ⟨_, _, rfl, rfl, _, _, rfl, _, rfl, few (by simp), ?_⟩⟩
  refine ⟨_, rfl, s, _, _, rfl, H.hs, lk_last, _, rfl, d1, _, .inr n, rfl, H.h1, rfl, by rw [rk_len]; omega, ?_⟩
  have ez : W.d (.tuple [.str n, .int z.tok, .int z.num, .int (if t + 6 > z.unt then t + 6 else z.unt)]) = .d (lzD (reZ z t)) := by
    rw [← en]; rfl
  rw [ez, tput_rk (nm := Lz.name) lzD L (reZ z t) (n := n) en]
  have tg : tget (dataKV (rk Lz.name lzD (pt Lz.name L (reZ z t)))) (.inr n) = some (.d (lzD (reZ z t))) := by
    rw [tget_rk, fd_pt, if_pos (show (reZ z t).name = n from en)]; rfl
  refine ⟨_, rfl, s, _, _, rfl, by rw [updM_ne H.n1]; exact H.hs, lk_last, _, rfl, d1, _, .inr n, _, rfl, .inl updM_same, rfl, tg, ?_⟩
  refine k _ ⟨by rw [updM_ne H.n1]; exact H.hs, updM_same, ?_, H.ne⟩ fun q q1 _ => updM_ne q1
  rw [updM_ne H.ne.symm, H.h2]
  have := rk_pt_same (nm := Lz.name) lB L (reZ z t) (x := z) (by rw [← en] at e; exact e) fun y hy ey => by
    have : y = z := one_of nd hy (fd_mem e).1 ey
    rw [this]
    rfl
  rw [← this]
def heldRows (L : List Lz) : List (List PyData) := (L.filter (·.held)).map rowZ
def sp_Leases_all_leases : SpD := fun ws M Q => ∃ (s d1 d2 : Addr) (L : List Lz), ws = [.m s] ∧ Ls M s d1 d2 L ∧ (L.map Lz.name).Nodup ∧ L.length ≤ 60 ∧
  ∀ rows', rows'.Perm (heldRows L) → (rows'.Pairwise fun x y => S.lexD y x = false) → ∀ p, M p = none → Q (.m p) (updM M p (.lst (tupsW rows')))
theorem len_Leases_all_leases : ∀ ws M Q, sp_Leases_all_leases ws M Q → ws.length = 1 := by rintro ws M Q ⟨s, d1, d2, L, rfl, _⟩; rfl
theorem held_take (L : List Lz) (i : Nat) {b : Lz} (h : L[i]? = some b) : heldRows (L.take (i + 1)) = if b.held = true then heldRows (L.take i) ++ [rowZ b] else heldRows (L.take i) := by
  unfold heldRows
  rw [List.take_succ, h, List.filter_append, List.map_append]
  by_cases e : b.held = true <;> simp [e]
theorem held_len (L : List Lz) : (heldRows L).length ≤ L.length := by
  unfold heldRows
  rw [List.length_map]
  exact List.length_filter_le _ _
theorem held_shape (L : List Lz) : ∀ r ∈ heldRows L, S.Shape [true, false, false, false] r := by
  intro r hr
  obtain ⟨z, _, rfl⟩ := List.mem_map.mp hr
  exact ⟨⟨_, rfl⟩, ⟨_, rfl⟩, ⟨_, rfl⟩, ⟨_, rfl⟩, trivial⟩
theorem read_Leases_all_leases : ∀ ws M Q, sp_Leases_all_leases ws M Q → t_Leases_all_leases { nx := fun _ M' => Q (.d .none) M', rt := Q } (startD N_Leases_all_leases ws) M := by
  rintro ws M Q ⟨s, d1, d2, L, rfl, H, nd, hlen, k⟩
  have s16' := s16
  refine ⟨d1, _, H.h1, _, rfl, s, _, _, rfl, by rw [updM_ne H.n1]; exact H.hs, lk_last, d1, rk Lz.name lzD L, rfl, updM_same, ?_⟩
  have hlw : (pairsW (rk Lz.name lzD L)).length = L.length := by simp [pairsW, rk]
  refine ⟨fun i acc τ M' => M' = updM M d1 (.fdic (dataKV (rk Lz.name lzD L))) ∧ i ≤ L.length ∧ acc = (heldRows (L.take i)).map PyData.tuple ∧ ∃ x0 x1, τ = [x0, x1, some (.m s)], ⟨rfl, Nat.zero_le _, rfl, none, none, rfl⟩, ?_, ?_⟩
  · rintro i w acc τ M' hw ⟨rfl, hi, rfl, x0, x1, rfl⟩
    have hi' : i < L.length := by rw [← hlw]; exact (List.getElem?_eq_some_iff.mp hw).1
    obtain ⟨b, hb⟩ : ∃ b, L[i]? = some b := ⟨L[i], List.getElem?_eq_getElem hi'⟩
    have ew : w = .d (.tuple [.str b.name, lzD b]) := by
      have : (pairsW (rk Lz.name lzD L))[i]? = some (.d (.tuple [.str b.name, lzD b])) := by
        simp only [pairsW, rk, List.getElem?_map, hb, Option.map_some]
        rfl
      rw [this] at hw
      exact (Option.some.inj hw).symm
    subst ew
    have hdl := held_len (L.take i)
    rw [List.length_take] at hdl
    have tg : tget (dataKV (rk Lz.name lB L)) (.inr b.name) = some (.d (lB b)) := by
      rw [tget_rk, fd_at nd (List.mem_of_getElem? hb)]; rfl
    refine ⟨by rw [List.length_map]; omega, _, rfl, rfl, _, _, rfl, _, _, rfl, rfl, ?_⟩
    refine ⟨_, rfl, s, _, _, rfl, by rw [updM_ne H.n1]; exact H.hs, lk_let, _, rfl, d2, _, .inr b.name, _, rfl, .inl (by rw [updM_ne H.ne.symm]; exact H.h2), rfl, tg, _, rfl, ?_⟩
    have dt := held_take L i hb
    cases hh : b.held with
    | true =>
      rw [hh, if_pos rfl] at dt
      exact iteT ⟨_, rfl, _, rfl, rfl, hi', by rw [dt]; simp [lzD], _, _, rfl⟩
    | false =>
      rw [hh, if_neg (by simp)] at dt
      exact iteF ⟨rfl, hi', by rw [dt], _, _, rfl⟩
  · rintro acc τ M' ⟨rfl, hi, rfl, x0, x1, rfl⟩
    rw [hlw, List.take_length]
    refine ⟨updM_same, ?_⟩
    rw [upd_back H.h1]
    have := held_len L
    exact ⟨_, heldRows L, true, _, rfl, .d, held_shape L, by omega, fun rows' h1 h2 p hp => k rows' h1 h2 p hp⟩
structure Zs (n : Nat) (L : List Lz) : Prop where
  nd : (L.map Lz.name).Nodup
  len : L.length ≤ n
  ok : ∀ z ∈ L, Wd z.name ∧ 0 ≤ z.tok ∧ z.tok ≤ n ∧ 0 ≤ z.num ∧ z.num ≤ 1000001 ∧ z.unt.natAbs ≤ 100000
theorem Zs.mono {n m : Nat} {L : List Lz} (h : Zs n L) (hm : n ≤ m) : Zs m L := ⟨h.nd, Nat.le_trans h.len hm, fun z hz => by
  obtain ⟨h1, h2, h3, h4⟩ := h.ok z hz
  exact ⟨h1, h2, by omega, h4⟩⟩
theorem Zs.put {n : Nat} {L : List Lz} {z : Lz} (h : Zs n L) (hz : Wd z.name ∧ 0 ≤ z.tok ∧ z.tok ≤ (n + 1 : Nat) ∧ 0 ≤ z.num ∧ z.num ≤ 1000001 ∧ z.unt.natAbs ≤ 100000) : Zs (n + 1) (pt Lz.name L z) :=
  ⟨pt_nd h.nd, by have := pt_len (nm := Lz.name) L z; have := h.len; omega, fun y hy => by
    rcases pt_mem hy with rfl | hy
    · exact hz
    · obtain ⟨h1, h2, h3, h4⟩ := h.ok y hy
      exact ⟨h1, h2, by omega, h4⟩⟩
theorem lz_ok {n : Nat} {z : Lz} (hn : n ≤ 1000) (h : Wd z.name ∧ 0 ≤ z.tok ∧ z.tok ≤ n ∧ 0 ≤ z.num ∧ z.num ≤ 1000001 ∧ z.unt.natAbs ≤ 100000) : okD 1 (lzD z) = true := by
  obtain ⟨h1, h2, h3, h4, h5, h6⟩ := h
  have big : (2 : Nat) ^ 100 > 10000000 := by decide
  simp only [lzD, rowZ, okD, okA, Bool.and_true, Bool.and_eq_true, decide_eq_true_eq]
  exact ⟨asc_b h1.2, by omega, by omega, by omega⟩
theorem rising_pw : ∀ (r : List Str) (x : Str), risingS x r = true → (x :: r).Pairwise fun a b => a.cps.toList ≤ b.cps.toList
  | [], x, _ => by simp
  | y :: r, x, h => by
    rw [risingS] at h
    simp only [Bool.and_eq_true, Bool.not_eq_true', ltCps_eq, decide_eq_false_iff_not] at h
    have ih := rising_pw r y h.2
    have hxy : x.cps.toList ≤ y.cps.toList := List.not_lt.mp h.1
    refine List.pairwise_cons.mpr ⟨fun z hz => ?_, ih⟩
    rcases List.mem_cons.mp hz with rfl | hz
    · exact hxy
    · exact List.le_trans hxy ((List.pairwise_cons.mp ih).1 z hz)
theorem sorted_pw {l : List Str} (h : sortedS l = true) : l.Pairwise fun a b => a.cps.toList ≤ b.cps.toList := by
  cases l with
  | nil => exact .nil
  | cons x r => exact rising_pw r x h
def dueF (L : List Lz) (n : Str) : Option (List PyData) := match fd Lz.name L n with
  | some z => if z.held = true then some (rowZ z) else none
  | none => none
theorem dueF_row {L : List Lz} {n : Str} {r : List PyData} (h : dueF L n = some r) : ∃ z ∈ L, z.name = n ∧ r = rowZ z := by
  unfold dueF at h
  cases e : fd Lz.name L n with
  | none => rw [e] at h; cases h
  | some z =>
    rw [e] at h
    dsimp only at h
    split at h
    · exact ⟨z, (fd_mem e).1, (fd_mem e).2, (Option.some.inj h).symm⟩
    · cases h
theorem due_names {L : List Lz} (nd : (L.map Lz.name).Nodup) : (L.map Lz.name).filterMap (dueF L) = heldRows L := by
  have main : ∀ K : List Lz, (∀ z ∈ K, z ∈ L) → (K.map Lz.name).filterMap (dueF L) = heldRows K := by
    intro K
    induction K with
    | nil => intro _; rfl
    | cons z K ih =>
      intro hK
      have hz := fd_at nd (hK z (by simp))
      have ih := ih fun y hy => hK y (by simp [hy])
      have hd : dueF L z.name = if z.held = true then some (rowZ z) else none := by
        unfold dueF
        rw [hz]
      rw [List.map_cons]
      cases hh : z.held with
      | true =>
        rw [hh, if_pos rfl] at hd
        rw [List.filterMap_cons_some hd, ih]
        simp [heldRows, hh]
      | false =>
        rw [hh, if_neg (by simp)] at hd
        rw [List.filterMap_cons_none hd, ih]
        simp [heldRows, hh]
  exact main L fun z hz => hz
theorem lex_first {x y : Str} {xs ys : List PyData} (hle : x.cps.toList ≤ y.cps.toList) (hne : x ≠ y) : S.lexD (.str y :: ys) (.str x :: xs) = false := by
  have e : S.sEq (.str y) (.str x) = false := by simp [S.sEq, Ne.symm hne]
  simp only [S.lexD, e, Bool.false_eq_true, if_false, S.sLt, decide_eq_false_iff_not]
  exact List.not_lt.mpr hle
theorem due_rows {L : List Lz} (nd : (L.map Lz.name).Nodup) {zs : List Str} (hp : zs.Perm (L.map Lz.name)) (hs : sortedS zs = true) :
    (zs.filterMap (dueF L)).Perm (heldRows L) ∧ (zs.filterMap (dueF L)).Pairwise fun x y => S.lexD y x = false := by
  refine ⟨?_, ?_⟩
  · have := hp.filterMap (dueF L)
    rwa [due_names nd] at this
  · have ndz : zs.Nodup := hp.nodup_iff.mpr nd
    have both : zs.Pairwise fun a b => a.cps.toList ≤ b.cps.toList ∧ a ≠ b := (sorted_pw hs).and ndz
    refine List.Pairwise.filterMap (dueF L) (fun a b hab x hx y hy => ?_) both
    obtain ⟨z1, _, e1, rfl⟩ := dueF_row hx
    obtain ⟨z2, _, e2, rfl⟩ := dueF_row hy
    exact lex_first (by rw [e1, e2]; exact hab.1) (by rw [e1, e2]; exact hab.2)
theorem rows_ok {n : Nat} {L : List Lz} {rows : List (List PyData)} (hn : n ≤ 60) (Z : Zs n L) (h : ∀ r ∈ rows, ∃ z ∈ L, r = rowZ z) (hl : rows.length ≤ 60) : okD 2 (.list (rows.map PyData.tuple)) = true ∧ reprOk (.list (rows.map PyData.tuple)) = true := by
  have h1 : okD 2 (.list (rows.map PyData.tuple)) = true := by
    simp only [okD]
    refine okA_of fun d hd => ?_
    obtain ⟨r, hr, rfl⟩ := List.mem_map.mp hd
    obtain ⟨z, hz, rfl⟩ := h r hr
    exact lz_ok (by omega) (Z.ok z hz)
  refine ⟨h1, reprOk_of (by decide) h1 ?_⟩
  have hb : bigA (rows.map PyData.tuple) ≤ (rows.map PyData.tuple).length * (6200 + 2) := bigA_le fun d hd => by
    obtain ⟨r, hr, rfl⟩ := List.mem_map.mp hd
    obtain ⟨z, hz, rfl⟩ := h r hr
    have := (Z.ok z hz).1.1
    simp only [rowZ, big, bigA]
    omega
  rw [List.length_map] at hb
  simp only [big]
  have : rows.length * (6200 + 2) ≤ 60 * (6200 + 2) := Nat.mul_le_mul_right _ hl
  omega
theorem tups_d (rows : List (List PyData)) : tupsW rows = (rows.map PyData.tuple).map W.d := by simp [tupsW]
theorem Ls.live {M M' : MH} {s d1 d2 : Addr} {L : List Lz} (H : Ls M s d1 d2 L) (f : ∀ q, M q ≠ none → M' q = M q) : Ls M' s d1 d2 L := H.keep fun q hq => f q (by
  rcases hq with rfl | rfl | rfl
  · rw [H.hs]; simp
  · rw [H.h1]; simp
  · rw [H.h2]; simp)
theorem del_upd {M : MH} {a : Addr} {o : MO} (h : M a = none) : D.delM (updM M a o) a = M := by
  funext q
  by_cases e : q = a
  · rw [e, h]; simp [D.delM]
  · rw [D.delM_ne e, updM_ne e]
theorem okT {z : Lz} {n : Nat} (x : Str) (hx : Asc x) (hn : n ≤ 1000) (h : Wd z.name ∧ 0 ≤ z.tok ∧ z.tok ≤ n ∧ 0 ≤ z.num ∧ z.num ≤ 1000001 ∧ z.unt.natAbs ≤ 100000) : okD 2 (.tuple [.str x, .int z.unt]) = true := by
  have big : (2 : Nat) ^ 100 > 10000000 := by decide
  simp only [okD, okA, Bool.and_true, Bool.and_eq_true, decide_eq_true_eq]
  exact ⟨asc_b hx, by omega⟩
def sp_l_renewed : SpD := fun ws M Q => ∃ (s d1 d2 : Addr) (L : List Lz) (n : Str) (t : Int), ws = [.m s, .d (.str n), .d (.int t)] ∧ Ls M s d1 d2 L ∧ L.length ≤ 1000 ∧ (L.map Lz.name).Nodup ∧ (∀ z, fd Lz.name L n = some z → z.held = false) ∧
  ∀ M', (∀ q, M q ≠ none → M' q = M q) → Q (.d (.tuple [.str "early", .int (untL L n)])) M'
theorem len_l_renewed : ∀ ws M Q, sp_l_renewed ws M Q → ws.length = 3 := by rintro ws M Q ⟨s, d1, d2, L, n, t, rfl, _⟩; rfl
theorem read_l_renewed : ∀ ws M Q, sp_l_renewed ws M Q → t_l_renewed sp_Leases_renew { nx := fun _ M' => Q (.d .none) M', rt := Q } (startD N_l_renewed ws) M := by
  rintro ws M Q ⟨s, d1, d2, L, n, t, rfl, H, hl, nd, hno, k⟩
  refine ⟨_, rfl, s, _, rfl, H.hs, lk_renew, _, rfl, _, rfl, s, d1, d2, L, n, t, rfl, H, hl, nd, fun _ a ha => ?_, fun z e hh => by rw [hno z e] at hh; cases hh⟩
  refine ⟨C_Early, _, true, updM_same, rfl, ?_⟩
  rw [if_pos rfl]
  exact ⟨_, rfl, a, C_Early, _, _, rfl, updM_same, by simp, rfl, _, rfl, few (by simp), k _ fun q hq => updM_ne fun z => hq (by rw [z]; exact ha)⟩
def sp_l_gone : SpD := fun ws M Q => ∃ (s d1 d2 : Addr) (L : List Lz) (n : Nat) (st : Str) (z : Lz) (x : Int), ws = [.m s, .d (.str st), .d (.tuple [.str st, .int z.tok, .int x, .int z.unt])] ∧ Ls M s d1 d2 L ∧ Zs n L ∧ n ≤ 50 ∧ fd Lz.name L st = some z ∧ z.held = false ∧
  ∀ M', (∀ q, M q ≠ none → M' q = M q) → Q (.d (.bool true)) M'
theorem len_l_gone : ∀ ws M Q, sp_l_gone ws M Q → ws.length = 3 := by rintro ws M Q ⟨s, d1, d2, L, n, st, z, x, rfl, _⟩; rfl
theorem read_l_gone : ∀ ws M Q, sp_l_gone ws M Q → t_l_gone sp_l_renewed sp_Leases_all_leases sp_Leases_lease_of sp_Leases_token_of sp_Leases_let_go { nx := fun _ M' => Q (.d .none) M', rt := Q } (startD N_l_gone ws) M := by
  rintro ws M Q ⟨s, d1, d2, L, n, st, z, x, rfl, H, Z, hn, e, hh, k⟩
  have s16' := s16
  have hlen := Z.len
  have zo := Z.ok z (fd_mem e).1
  have hno : ∀ y, fd Lz.name L st = some y → y.held = false := fun y ey => by rw [e] at ey; cases ey; exact hh
  have eu : untL L st = z.unt := by unfold untL; rw [e]
  have et : tokL L st = z.tok := by unfold tokL; rw [e]
  have ok := okT (z := z) "early" (asc_dec (by decide +kernel)) (by omega : n ≤ 1000) zo
  refine ⟨_, rfl, _, _, rfl, rfl, rfl, _, _, rfl, rfl, _, rfl, _, _, rfl, rfl, rfl, _, rfl, _, _, rfl, rfl, rfl, .inl ⟨_, _, rfl, rfl, _, rfl, few (by simp), _, rfl, ?_⟩⟩
  refine ⟨fun i τ M' => (∀ q, M q ≠ none → M' q = M q) ∧ ∃ x3 x4, τ = [some (.m s), some (.d (.str st)), some (.d (.tuple [.str st, .int z.tok, .int x, .int z.unt])), x3, x4], ⟨fun _ _ => rfl, _, _, rfl⟩, ?_, ?_⟩
  · rintro i w τ M1 hw ⟨f1, x3, x4, rfl⟩
    have hwk : w = .d .none ∨ ∃ j, w = .d (.int j) := by
      have hm := List.mem_of_getElem? hw
      simp only [List.map_cons, List.map_nil, List.mem_cons, List.not_mem_nil, or_false] at hm
      rcases hm with rfl | rfl | rfl | rfl | rfl
      · exact .inl rfl
      · exact .inr ⟨_, rfl⟩
      · exact .inr ⟨_, rfl⟩
      · exact .inr ⟨_, rfl⟩
      · exact .inr ⟨_, rfl⟩
    have H1 := H.live f1
    have fin : ∀ (M2 : MH) (x3 : Option W), (∀ q, M q ≠ none → M2 q = M q) → (dSeq (dAsg (dLC (dItems (dSeal (dMeth C_Leases "all_leases" sp_Leases_all_leases (dVar 0) dNil))) (gN 0) (dTest (dOp rdEqT (dOp rdIx (dVar 0) (dC (.d (.int 0)))) (dVar 1))) (dVar 0) 1 [1]) (gN 4)) <|
      dIf (dOr (dTest (dOp rdNeT (dVar 4) (dLst (dNil)))) (dOr (dTest (dOp (rdIsN true) (dMeth C_Leases "lease_of" sp_Leases_lease_of (dVar 0) (dCons (dVar 1) (dNil))) (dC (.d .none)))) (dTest (dOp rdNeT (dMeth C_Leases "token_of" sp_Leases_token_of (dVar 0) (dCons (dVar 1) (dNil))) (dOp rdIx (dVar 2) (dC (.d (.int 1))))))))
        (dRet (dC (.d (.bool false))))
        (dNext)) { nx := fun τ M' => (∀ q, M q ≠ none → M' q = M q) ∧ ∃ x3 x4, τ = [some (.m s), some (.d (.str st)), some (.d (.tuple [.str st, .int z.tok, .int x, .int z.unt])), x3, x4], rt := Q, bk := dRet (dOp (rdIsB false) (dMeth C_Leases "let_go" sp_Leases_let_go (dVar 0) (dCons (dVar 1) (dNil))) (dC (.d (.bool false)))) { nx := fun _ M' => Q (.d .none) M', rt := Q }, ct := fun τ M' => (∀ q, M q ≠ none → M' q = M q) ∧ ∃ x3 x4, τ = [some (.m s), some (.d (.str st)), some (.d (.tuple [.str st, .int z.tok, .int x, .int z.unt])), x3, x4] }
        [some (.m s), some (.d (.str st)), some (.d (.tuple [.str st, .int z.tok, .int x, .int z.unt])), x3, x4] M2 := by
      intro M2 x3 f2
      have H2 := H.live f2
      refine ⟨_, rfl, s, _, rfl, H2.hs, lk_all, s, d1, d2, L, rfl, H2, Z.nd, by omega, fun rows g1 g2 c hc => ⟨c, rows.map PyData.tuple, rfl, by rw [updM_same, tups_d], _, rfl, ?_⟩⟩
      rw [del_upd hc]
      have dlen : rows.length ≤ 60 := by
        rw [g1.length_eq]
        have := held_len L
        omega
      refine lc_pure (fun _ => none) (by rw [List.length_map, List.length_map]; omega) (fun w hw P' hp => ?_) ?_
      · obtain ⟨d, hd, rfl⟩ := List.mem_map.mp hw
        obtain ⟨r, hr, rfl⟩ := List.mem_map.mp hd
        obtain ⟨y, hy, rfl⟩ := List.mem_map.mp (g1.mem_iff.mp hr)
        obtain ⟨hyL, hyh⟩ := List.mem_filter.mp hy
        have ne : y.name ≠ st := fun en => by
          have := fd_at Z.nd hyL
          rw [en, e] at this
          cases this
          rw [hh] at hyh
          cases hyh
        refine ⟨_, rfl, _, _, rfl, rfl, rfl, _, rfl, _, _, .d, .d, rfl, _, rfl, ?_⟩
        rw [eqv_str', decide_eq_false ne]
        exact iteF ⟨rfl, hp⟩
      rw [show List.filterMap (fun _ : W => (none : Option PyData)) ((rows.map PyData.tuple).map W.d) = [] from by simp]
      refine ⟨_, rfl, _, rfl, few (by simp), _, _, .d, .d, rfl, _, rfl, ?_⟩
      refine iteF ⟨_, rfl, s, _, rfl, H2.hs, lk_lof, _, rfl, s, d1, d2, L, st, rfl, H2, rfl, _, rfl, ?_⟩
      rw [offRow e hh]
      refine iteF ⟨_, rfl, s, _, rfl, H2.hs, lk_tof, _, rfl, s, d1, d2, L, st, rfl, H2, _, rfl, _, _, rfl, rfl, rfl, _, _, .d, .d, rfl, _, rfl, ?_⟩
      rw [et, eqv_int', decide_eq_true rfl]
      exact iteF ⟨f2, _, _, rfl⟩
    refine ⟨_, rfl, rfl, _, rfl, ?_⟩
    rcases hwk with rfl | ⟨j, rfl⟩
    · exact iteF (iteF (fin M1 _ f1))
    · refine iteT ⟨_, rfl, _, rfl, _, rfl, s, d1, d2, L, st, j, rfl, H1, by omega, Z.nd, hno, fun M2 f2 => ?_⟩
      rw [eu]
      refine ⟨_, rfl, _, _, rfl, rfl, rfl, _, rfl, few (by simp), _, _, .d, .d, eqOk2_of (by decide) ok ok, _, rfl, ?_⟩
      rw [refl_of ok]
      exact iteF (fin M2 _ fun q hq => by rw [f2 q (by rw [f1 q hq]; exact hq), f1 q hq])
  · rintro τ M1 ⟨f1, x3, x4, rfl⟩
    have H1 := H.live f1
    refine ⟨_, rfl, s, _, rfl, H1.hs, lk_go, _, rfl, s, d1, d2, L, st, rfl, H1, by omega, Z.nd, fun M2 H2 f2 => ?_⟩
    have eg : goL L st = L := by unfold goL; rw [e]; simp [hh]
    have eh : heldL L st = false := by unfold heldL; rw [e]; exact hh
    rw [eg] at H2
    rw [eh]
    have f3 : ∀ q, M q ≠ none → M2 q = M q := fun q hq => by
      by_cases q1 : q = d1
      · rw [q1, H2.h1, H.h1]
      · by_cases q2 : q = d2
        · rw [q2, H2.h2, H.h2]
        · rw [f2 q q1 q2, f1 q hq]
    exact ⟨_, _, rfl, rfl, k M2 f3⟩
def sp_law : SpD := fun ws M Q => ∃ ns : List Int, ws = [.d (.list (ns.map PyData.int))] ∧ ns.length ≤ 63 ∧ M = (fun _ => none) ∧ ∀ M', Q (.d (.bool true)) M'
theorem len_law : ∀ ws M Q, sp_law ws M Q → ws.length = 1 := by rintro ws M Q ⟨d, rfl, _⟩; rfl
theorem law_read : ∀ ns : List Int, ns.length ≤ 63 → sp_law [.d (.list (ns.map PyData.int))] (fun _ => none) (fun w _ => w = .d (.bool true)) := fun ns h => ⟨ns, rfl, h, rfl, fun _ => rfl⟩
structure Al (M : MH) (p s d1 d2 g : Addr) (zs : List Str) (n b : Nat) (L : List Lz) : Prop where
  bag : Bag M p
  ls : Ls M s d1 d2 L
  la : M g = some (.dic (dataKV (rk Lz.name lzD L)))
  n1 : g ≠ d1
  n2 : g ≠ d2
  zz : Zs n L
  nm : L.map Lz.name = zs
  hd : ∀ z ∈ L, z.held = true
  un : ∀ z ∈ L, 0 ≤ z.unt ∧ z.unt ≤ (b : Int)
theorem Al.ph {M : MH} {p s d1 d2 g : Addr} {zs : List Str} {n b : Nat} {L : List Lz} (I : Al M p s d1 d2 g zs n b L) : p ≠ s ∧ p ≠ d1 ∧ p ≠ d2 ∧ p ≠ g ∧ s ≠ g := by
  obtain ⟨a, b, c, ns, e, _⟩ := I.bag
  exact ⟨ne_M e I.ls.hs (by intro z; cases z), ne_M e I.ls.h1 (by intro z; cases z), ne_M e I.ls.h2 (by intro z; cases z), ne_M e I.la (by intro z; cases z), ne_M I.ls.hs I.la (by intro z; cases z)⟩
theorem Al.take {M M' : MH} {p s d1 d2 g : Addr} {zs : List Str} {n b : Nat} {L : List Lz} (I : Al M p s d1 d2 g zs n b L) (bg : Bag M' p) (f : ∀ q, q ≠ p → M' q = M q) : Al M' p s d1 d2 g zs n b L := by
  obtain ⟨q1, q2, q3, q4, _⟩ := I.ph
  refine ⟨bg, I.ls.keep fun q hq => f q ?_, by rw [f g q4.symm]; exact I.la, I.n1, I.n2, I.zz, I.nm, I.hd, I.un⟩
  rcases hq with rfl | rfl | rfl
  · exact q1.symm
  · exact q2.symm
  · exact q3.symm
theorem dueF_all {L : List Lz} {x : Str} {z : Lz} (e : fd Lz.name L x = some z) (h : z.held = true) : dueF L x = some (rowZ z) := by unfold dueF; rw [e]; simp [h]
theorem pt_nm {L : List Lz} {z y : Lz} (e : fd Lz.name L z.name = some y) : (pt Lz.name L z).map Lz.name = L.map Lz.name := by rw [pt_names, e]
theorem read_law : ∀ ws M Q, sp_law ws M Q → t_law sp_l_bag sp_l_stores sp_Leases_init sp_Leases_let_go sp_Leases_give sp_l_take sp_l_gone sp_Leases_all_leases sp_Leases_renew { nx := fun _ M' => Q (.d .none) M', rt := Q } (startD N_law ws) M := by
  rintro ws M Q ⟨ns, rfl, hl, rfl, k⟩
  have s16' := s16
  refine ⟨_, rfl, ns, rfl, by omega, fun p M1 _ f1 b1 => ?_⟩
  refine ⟨_, rfl, p, rfl, b1, fun zs M2 hz b2 f2 => ?_⟩
  obtain ⟨hz2, hz10, hzw, hznd⟩ := hz
  refine fun s hs => ⟨s, rfl, updM_same, fun d1 d2 M3 hd1 hd2 H3 fr3 => ⟨rfl, ?_⟩⟩
  have bl2 : M2 p ≠ none := by obtain ⟨o, e⟩ := bag_at b2; rw [e]; simp
  have ps : p ≠ s := fun e => bl2 (by rw [e]; exact hs)
  have pd1 : p ≠ d1 := fun e => by rw [← e, updM_ne ps] at hd1; exact bl2 hd1
  have pd2 : p ≠ d2 := fun e => by rw [← e, updM_ne ps] at hd2; exact bl2 hd2
  have b3 : Bag M3 p := bag_keep b2 (by rw [fr3 p ps pd1 pd2, updM_ne ps])
  refine ⟨_, rfl, _, rfl, ?_⟩
  refine ⟨fun i τ M' => Bag M' p ∧ Ls M' s d1 d2 [] ∧ ∃ x4, τ = [some (.d (.list (ns.map PyData.int))), some (.m p), some (.d (strsD zs)), some (.m s), x4, none, none, none, none, none, none, none], ⟨b3, H3, _, rfl⟩, ?_, ?_⟩
  · rintro i w τ M' hw ⟨bg, H, x4, rfl⟩
    obtain ⟨st, rfl, hst⟩ : ∃ st, w = .d (.str st) ∧ st ∈ zs := by
      have hm := List.mem_of_getElem? hw
      simp only [List.map_map, List.mem_map] at hm
      obtain ⟨z, hz, e⟩ := hm
      exact ⟨z, e.symm, hz⟩
    refine ⟨_, rfl, s, _, rfl, H.hs, lk_go, _, rfl, s, d1, d2, [], st, rfl, H, by simp, by simp, fun M4 H4 f4 => ⟨_, _, rfl, rfl, _, rfl, iteF ⟨bag_keep bg (f4 p pd1 pd2), H4, _, rfl⟩⟩⟩
  rintro τ M4 ⟨b4, H4, x4, rfl⟩
  refine fun g hg => ?_
  have sg : s ≠ g := ne_new H4.hs hg
  have d1g : d1 ≠ g := ne_new H4.h1 hg
  have d2g : d2 ≠ g := ne_new H4.h2 hg
  have pg : p ≠ g := fun e => by obtain ⟨o, eo⟩ := bag_at b4; rw [e, hg] at eo; cases eo
  refine ⟨_, rfl, _, rfl, ?_⟩
  refine ⟨fun i τ M' => i ≤ zs.length ∧ ∃ L x4, Al M' p s d1 d2 g (zs.take i) 10 35 L ∧ τ = [some (.d (.list (ns.map PyData.int))), some (.m p), some (.d (strsD zs)), some (.m s), x4, some (.m g), none, none, none, none, none, none], ?_, ?_, ?_⟩
  · refine ⟨Nat.zero_le _, [], _, ⟨bag_keep b4 (updM_ne pg), ⟨by rw [updM_ne sg]; exact H4.hs, by rw [updM_ne d1g]; exact H4.h1, by rw [updM_ne d2g]; exact H4.h2, H4.ne⟩, updM_same, d1g.symm, d2g.symm, ⟨by simp, by simp, fun z hz => by cases hz⟩, rfl, (fun z hz => by cases hz), fun z hz => by cases hz⟩, rfl⟩
  · rintro i w τ M5 hw ⟨hi, L, y4, A, rfl⟩
    have hi' : i < zs.length := by
      have := (List.getElem?_eq_some_iff.mp hw).1
      simpa using this
    obtain ⟨st, rfl, hst, hsi⟩ : ∃ st, w = .d (.str st) ∧ st ∈ zs ∧ zs[i]? = some st := by
      have e1 : zs[i]? = some zs[i] := List.getElem?_eq_getElem hi'
      rw [List.map_map, List.getElem?_map, e1] at hw
      cases hw
      exact ⟨zs[i], rfl, List.getElem_mem hi', e1⟩
    have htk : zs.take (i + 1) = zs.take i ++ [st] := by rw [List.take_succ, hsi]; rfl
    have en : fd Lz.name L st = none := by
      cases e : fd Lz.name L st with
      | none => rfl
      | some z =>
        obtain ⟨m1, m2⟩ := fd_mem e
        have : st ∈ zs.take i := by rw [← A.nm, ← m2]; exact List.mem_map_of_mem m1
        have nd : (zs.take i ++ [st]).Nodup := by rw [← htk]; exact hznd.sublist (List.take_sublist _ _)
        have := (List.nodup_append.mp nd).2.2 st this st (by simp)
        exact absurd rfl this
    have hl5 : L.length ≤ i := by
      have := congrArg List.length A.nm
      rw [List.length_map, List.length_take] at this
      omega
    refine ⟨_, rfl, s, _, rfl, A.ls.hs, lk_give, _, rfl, _, rfl, p, 9, rfl, A.bag, by decide, by decide, fun a M6 a0 a1 b6 f6 => .inl ⟨_, _, rfl, rfl, _, rfl, p, 30, rfl, b6, by decide, by decide, fun t M7 t0 t1 b7 f7 => ?_⟩⟩
    have A7 : Al M7 p s d1 d2 g (zs.take i) 10 35 L := A.take b7 fun q hq => by rw [f7 q hq, f6 q hq]
    obtain ⟨q1, q2, q3, q4, q5⟩ := A7.ph
    refine ⟨s, d1, d2, L, st, 1 + a, t, rfl, A7.ls, by omega, (fun z e => by rw [en] at e; cases e), fun _ M8 H8 f8 => ?_⟩
    have la8 : M8 g = some (.dic (dataKV (rk Lz.name lzD L))) := by rw [f8 g A7.n1 A7.n2]; exact A7.la
    refine ⟨_, rfl, _, rfl, g, _, .inr st, rfl, la8, rfl, by rw [rk_len]; omega, ?_⟩
    rw [tput_rk (nm := Lz.name) lzD L (mkG L st (1 + a) t) (n := st) rfl]
    have et : tokL L st = 0 := by unfold tokL; rw [en]
    have epn : (pt Lz.name L (mkG L st (1 + a) t)).map Lz.name = zs.take (i + 1) := by
      rw [pt_names, show fd Lz.name L (mkG L st (1 + a) t).name = none from en, A7.nm, htk]; rfl
    have e2 : (pt Lz.name L (mkG L st (1 + a) t)).length ≤ 10 := by
      have := congrArg List.length epn
      rw [List.length_map, List.length_take] at this
      omega
    refine ⟨hi', _, _, ⟨bag_keep b7 (by rw [updM_ne q4]; exact f8 p q2 q3), H8.keep fun q hq => updM_ne ?_, updM_same, A7.n1, A7.n2, ⟨by rw [epn]; exact hznd.sublist (List.take_sublist _ _), e2, fun y hy => ?_⟩, epn, fun y hy => ?_, fun y hy => ?_⟩, rfl⟩
    · rcases hq with rfl | rfl | rfl
      · exact q5
      · exact A7.n1.symm
      · exact A7.n2.symm
    · rcases pt_mem hy with rfl | hy
      · exact ⟨hzw st hst, by show 0 ≤ tokL L st + 1; omega, by show tokL L st + 1 ≤ ((10 : Nat) : Int); omega, by show 0 ≤ 1 + a; omega, by show 1 + a ≤ 1000001; omega, by show (t + 6).natAbs ≤ 100000; omega⟩
      · exact A7.zz.ok y hy
    · rcases pt_mem hy with rfl | hy
      · rfl
      · exact A7.hd y hy
    · rcases pt_mem hy with rfl | hy
      · exact ⟨by show 0 ≤ t + 6; omega, by show t + 6 ≤ ((35 : Nat) : Int); omega⟩
      · exact A7.un y hy
  rintro τ M5 ⟨_, L5, y4, A5, rfl⟩
  have ezs : zs.take ((zs.map PyData.str).map W.d).length = zs := by simp
  rw [ezs] at A5
  refine ⟨_, rfl, p, 17, rfl, A5.bag, by decide, by decide, fun n6 M6 n60 n61 b6 f6 => .inl ⟨_, _, rfl, rfl, 4 + n6, rfl, by omega, by omega, ?_⟩⟩
  have A6 := A5.take b6 f6
  dsimp only
  refine ⟨fun i τ M' => ∃ L x4 x6 x7 x8 x9 x10 x11, Al M' p s d1 d2 g zs (10 + i) (35 + 20 * i) L ∧ τ = [some (.d (.list (ns.map PyData.int))), some (.m p), some (.d (strsD zs)), some (.m s), x4, some (.m g), x6, x7, x8, x9, x10, x11], ⟨_, _, _, _, _, _, _, _, A6, rfl⟩, ?_, ?_⟩
  · rintro i w τ M7 hw ⟨L, x4, x6, x7, x8, x9, x10, x11, A, rfl⟩
    have hi : i < (4 + n6).toNat := by
      have := (List.getElem?_eq_some_iff.mp hw).1
      simpa [rangeW] using this
    have hlz : L.length ≤ 10 := by
      have := congrArg List.length A.nm
      rw [List.length_map] at this
      omega
    refine ⟨_, rfl, _, rfl, _, rfl, _, _, rfl, rfl, rfl, p, ((zs.map PyData.str).length : Nat), rfl, A.bag, by simp only [List.length_map]; omega, by simp only [List.length_map]; omega, fun i1 M8 i10 i11 b8 f8 => ?_⟩
    obtain ⟨st, est, hst⟩ := ix_str_in (M := M8) (zs := zs) i10 (by simpa using i11)
    refine ⟨i1, _, rfl, est, rfl, ?_⟩
    have A8 := A.take b8 f8
    obtain ⟨z, hzm, enz⟩ : ∃ z ∈ L, z.name = st := by
      rw [← A.nm] at hst
      obtain ⟨z, h1, h2⟩ := List.mem_map.mp hst
      exact ⟨z, h1, h2⟩
    have e : fd Lz.name L st = some z := by rw [← enz]; exact fd_at A.zz.nd hzm
    have tg : tget (dataKV (rk Lz.name lzD L)) (.inr st) = some (.d (lzD z)) := by rw [tget_rk, e]; rfl
    refine ⟨_, rfl, _, rfl, g, _, .inr st, _, rfl, .inl A8.la, rfl, tg, ?_⟩
    have hzh := A.hd z hzm
    have zo := A.zz.ok z hzm
    have zu := A.un z hzm
    refine ⟨_, rfl, g, _, L.map Lz.name, rfl, A8.la, by simp [dataKV, rk], by rw [List.length_map]; omega, fun z1 p1 s1 a ha => ⟨a, z1.map PyData.str, rfl, by rw [updM_same]; simp [strsW], _, rfl, ?_⟩⟩
    rw [del_upd ha]
    have hl1 : z1.length = L.length := by rw [p1.length_eq, List.length_map]
    have e1 : fd Lz.name L (Lz.name { z with held := false }) = some z := by rw [show Lz.name { z with held := false } = st from enz]; exact e
    have nd1 : ((pt Lz.name L { z with held := false }).map Lz.name).Nodup := pt_nd A.zz.nd
    have nm1 : (pt Lz.name L { z with held := false }).map Lz.name = L.map Lz.name := pt_nm e1
    have p2 : z1.Perm ((pt Lz.name L { z with held := false }).map Lz.name) := by rw [nm1]; exact p1
    have fdL1 : ∀ x, fd Lz.name (pt Lz.name L { z with held := false }) x = if st = x then some { z with held := false } else fd Lz.name L x := fun x => by rw [fd_pt]; rw [show Lz.name { z with held := false } = st from enz]
    generalize hL1 : pt Lz.name L { z with held := false } = L1 at *
    refine lc_pure (fun w => match w with | .d (.str x) => (dueF L1 x).map PyData.tuple | _ => none) (by rw [List.length_map, List.length_map]; omega) (fun w hw P' hp => ?_) ?_
    · obtain ⟨d, hd, rfl⟩ := List.mem_map.mp hw
      obtain ⟨x, hx, rfl⟩ := List.mem_map.mp hd
      obtain ⟨y, hy, eyn⟩ := List.mem_map.mp (p1.mem_iff.mp hx)
      have ey : fd Lz.name L x = some y := by rw [← eyn]; exact fd_at A.zz.nd hy
      refine ⟨_, rfl, _, rfl, _, _, .d, .d, rfl, _, rfl, ?_⟩
      rw [eqv_str']
      by_cases hx' : x = st
      · rw [decide_eq_true hx']
        have : dueF L1 x = none := by unfold dueF; rw [fdL1, if_pos hx'.symm]; simp
        dsimp only at hp
        rw [this] at hp
        exact iteF ⟨rfl, hp⟩
      · rw [decide_eq_false hx']
        have : dueF L1 x = some (rowZ y) := dueF_all (by rw [fdL1, if_neg (Ne.symm hx')]; exact ey) (A.hd y hy)
        dsimp only at hp
        rw [this] at hp
        have tgx : tget (dataKV (rk Lz.name lzD L)) (.inr x) = some (.d (lzD y)) := by rw [tget_rk, ey]; rfl
        exact iteT ⟨_, rfl, _, rfl, g, _, .inr x, _, rfl, .inl A8.la, rfl, tgx, _, rfl, rfl, hp⟩
    have efm : List.filterMap (fun w => match w with | .d (.str x) => (dueF L1 x).map PyData.tuple | _ => none) ((z1.map PyData.str).map W.d) = (z1.filterMap (dueF L1)).map PyData.tuple := by
      rw [List.map_map, List.filterMap_map, List.map_filterMap]
      rfl
    rw [efm]
    obtain ⟨dp, dw⟩ := due_rows nd1 p2 s1
    generalize z1.filterMap (dueF L1) = due at dp dw
    obtain ⟨q1, q2, q3, q4, q5⟩ := A8.ph
    refine ⟨_, rfl, s, _, rfl, A8.ls.hs, lk_go, _, rfl, s, d1, d2, L, st, rfl, A8.ls, by omega, A.zz.nd, fun M9 H9 f9 => ?_⟩
    have eg : goL L st = L1 := by unfold goL; rw [e]; simp [hzh, hL1]
    have eh : heldL L st = true := by unfold heldL; rw [e]; exact hzh
    rw [eg] at H9
    rw [eh]
    refine ⟨_, _, rfl, rfl, _, rfl, iteF ?_⟩
    have la9 : M9 g = some (.dic (dataKV (rk Lz.name lzD L))) := by rw [f9 g A8.n1 A8.n2]; exact A8.la
    have b9 : Bag M9 p := bag_keep b8 (f9 p q2 q3)
    have Z1 : Zs (10 + i) L1 := ⟨nd1, by
        have := congrArg List.length nm1
        rw [List.length_map, List.length_map] at this
        omega, fun y hy => by
        rw [← hL1] at hy
        rcases pt_mem hy with rfl | hy
        · exact zo
        · exact A.zz.ok y hy⟩
    have ef1 : fd Lz.name L1 st = some { z with held := false } := by rw [fdL1, if_pos rfl]
    refine ⟨_, rfl, _, rfl, _, rfl, s, d1, d2, L1, 10 + i, st, { z with held := false }, z.num, ?_, H9, Z1, by omega, ef1, rfl, fun M10 f10 => ⟨_, rfl, iteF ?_⟩⟩
    · show [W.m s, .d (.str st), .d (lzD z)] = _
      unfold lzD rowZ
      rw [enz]
    have H10 := H9.live f10
    have la10 : M10 g = some (.dic (dataKV (rk Lz.name lzD L))) := by rw [f10 g (by rw [la9]; simp)]; exact la9
    have b10 : Bag M10 p := bag_keep b9 (f10 p (by obtain ⟨o, eo⟩ := bag_at b9; rw [eo]; simp))
    have hl1' : L1.length ≤ 10 := by
      have := congrArg List.length nm1
      rw [List.length_map, List.length_map] at this
      omega
    refine ⟨_, rfl, s, _, rfl, H10.hs, lk_all, s, d1, d2, L1, rfl, H10, nd1, by omega, fun rows g1 g2 c hc => ?_⟩
    have er : rows = due := S.sorted_uniq (sh := [true, false, false, false]) (fun r hr => held_shape L1 r (g1.mem_iff.mp hr)) (g1.trans dp.symm) g2 dw
    subst er
    have dsub : ∀ r ∈ rows, ∃ z ∈ L1, r = rowZ z := fun r hr => by
      obtain ⟨z, hz, e⟩ := List.mem_map.mp (dp.mem_iff.mp hr)
      exact ⟨z, (List.mem_filter.mp hz).1, e.symm⟩
    have dlen : rows.length ≤ 60 := by
      rw [dp.length_eq]
      have := held_len L1
      omega
    obtain ⟨ok1, ok2⟩ := rows_ok (by omega) Z1 dsub dlen
    refine ⟨_, rfl, _, _, .l (ds := rows.map PyData.tuple) (by rw [updM_same, tups_d]), .d, eqOk2_of (by decide) ok1 ok1, _, rfl, ?_⟩
    rw [refl_of ok1]
    refine iteF ?_
    have f11 : ∀ q, M10 q ≠ none → updM M10 c (.lst (tupsW rows)) q = M10 q := fun q hq => updM_ne fun z => hq (by rw [z]; exact hc)
    generalize updM M10 c (.lst (tupsW rows)) = M11 at f11 ⊢
    have H11 := H10.live f11
    have la11 : M11 g = some (.dic (dataKV (rk Lz.name lzD L))) := by rw [f11 g (by rw [la10]; simp)]; exact la10
    have b11 : Bag M11 p := bag_keep b10 (f11 p (by obtain ⟨o, eo⟩ := bag_at b10; rw [eo]; simp))
    refine ⟨_, rfl, _, _, rfl, rfl, rfl, _, _, rfl, rfl, _, rfl, p, 12, rfl, b11, by decide, by decide, fun v M12 v0 v1 b12 f12 => .inl ⟨_, _, rfl, rfl, _, _, rfl, ?_⟩⟩
    have kp : ∀ {N N' : MH}, Ls N s d1 d2 L1 → (∀ q, q ≠ p → N' q = N q) → Ls N' s d1 d2 L1 := fun H f => H.keep fun q hq => f q (by
      rcases hq with rfl | rfl | rfl
      · exact q1.symm
      · exact q2.symm
      · exact q3.symm)
    have H12 : Ls M12 s d1 d2 L1 := kp H11 f12
    have eL : rk Lz.name lzD L = rk Lz.name lzD L1 := by
      rw [← hL1]
      exact (rk_pt_same (nm := Lz.name) lzD L { z with held := false } (x := z) e1 fun y hy ey => by
        have : y = z := one_of A.zz.nd hy hzm ey
        rw [this]
        rfl).symm
    have la12 : M12 g = some (.dic (dataKV (rk Lz.name lzD L1))) := by rw [f12 g q4.symm, la11, eL]
    obtain ⟨tn, htn, tn0, tn1⟩ : ∃ tn : Int, (if z.unt - 8 + v > 0 then z.unt - 8 + v else 0) = tn ∧ 0 ≤ tn ∧ tn ≤ z.unt + 4 := ⟨_, rfl, by split <;> omega, by split <;> omega⟩
    rw [htn]
    have fin : ∀ (N : MH) (L' : List Lz) (y : Lz), L'.map Lz.name = zs → (∀ x, fd Lz.name L' x = if st = x then some y else fd Lz.name L1 x) → y.name = st → y.held = true → y.tok = z.tok + 1 → 0 ≤ y.num → y.num ≤ 1000001 → 0 ≤ y.unt → y.unt ≤ z.unt + 15 →
        Bag N p → Ls N s d1 d2 L' → N g = some (.dic (dataKV (rk Lz.name lzD L'))) → Al N p s d1 d2 g zs (10 + (i + 1)) (35 + 20 * (i + 1)) L' := by
      intro N L' y hn hf y1 y2 y3 y4 y5 y6 y7 bN HN lN
      have hlen : L'.length ≤ 10 := by
        have := congrArg List.length hn
        rw [List.length_map] at this
        omega
      have nd' : (L'.map Lz.name).Nodup := by rw [hn]; exact hznd
      have mem : ∀ x ∈ L', x = y ∨ x ∈ L := fun x hx => by
        have h1 := fd_at nd' hx
        rw [hf] at h1
        by_cases h2 : st = x.name
        · rw [if_pos h2] at h1
          exact .inl (Option.some.inj h1).symm
        · rw [if_neg h2, fdL1, if_neg h2] at h1
          exact .inr (fd_mem h1).1
      refine ⟨bN, HN, lN, A.n1, A.n2, ⟨nd', by omega, fun x hx => ?_⟩, hn, fun x hx => ?_, fun x hx => ?_⟩
      · rcases mem x hx with rfl | hx
        · exact ⟨by rw [y1, ← enz]; exact zo.1, by omega, by omega, y4, y5, by omega⟩
        · obtain ⟨h1, h2, h3, h4⟩ := A.zz.ok x hx
          exact ⟨h1, h2, by omega, h4⟩
      · rcases mem x hx with rfl | hx
        · exact y2
        · exact A.hd x hx
      · rcases mem x hx with rfl | hx
        · exact ⟨y6, by omega⟩
        · have := A.un x hx
          exact ⟨this.1, by omega⟩
    refine ⟨_, rfl, _, _, rfl, rfl, rfl, _, rfl, p, 9, rfl, b12, by decide, by decide, fun a M13 a0 a1 b13 f13 => .inl ⟨_, _, rfl, rfl, _, rfl, few (by simp), _, rfl, p, 2, rfl, b13, by decide, by decide, fun c2 M14 c20 c21 b14 f14 => ?_⟩⟩
    obtain ⟨num, enum, num0, num1⟩ : ∃ num : Int, ixW M14 (.d (.list [.int z.num, .int (1 + a)])) c2 = some (.d (.int num)) ∧ 0 ≤ num ∧ num ≤ 1000001 := by
      obtain ⟨d, ed, hd⟩ := ix_at (M := M14) (ds := [.int z.num, .int (1 + a)]) c20 (by simpa using c21)
      simp only [List.mem_cons, List.not_mem_nil, or_false] at hd
      rcases hd with rfl | rfl
      · exact ⟨_, ed, zo.2.2.2.1, zo.2.2.2.2.1⟩
      · exact ⟨_, ed, by omega, by omega⟩
    refine ⟨c2, _, rfl, enum, rfl, ?_⟩
    have H14 : Ls M14 s d1 d2 L1 := kp (kp H12 f13) f14
    have la14 : M14 g = some (.dic (dataKV (rk Lz.name lzD L1))) := by rw [f14 g q4.symm, f13 g q4.symm, la12]
    refine ⟨_, rfl, s, _, rfl, H14.hs, lk_give, _, rfl, _, rfl, _, rfl, s, d1, d2, L1, st, num, tn, rfl, H14, by omega, (fun y e => by rw [ef1] at e; cases e; intro h; cases h), fun _ M15 H15 f15 => ?_⟩
    have et : tokL L1 st = z.tok := by unfold tokL; rw [ef1]
    have la15 : M15 g = some (.dic (dataKV (rk Lz.name lzD L1))) := by rw [f15 g A.n1 A.n2, la14]
    have b15 : Bag M15 p := bag_keep b14 (f15 p q2 q3)
    refine ⟨_, rfl, _, rfl, g, _, .inr st, rfl, la15, rfl, by rw [rk_len]; omega, ?_⟩
    rw [tput_rk (nm := Lz.name) lzD L1 (mkG L1 st num tn) (n := st) rfl]
    obtain ⟨y, hy⟩ : ∃ y, y = mkG L1 st num tn := ⟨_, rfl⟩
    have y1 : y.name = st := by rw [hy]; rfl
    have y2 : y.held = true := by rw [hy]; rfl
    have y3 : y.tok = z.tok + 1 := by rw [hy]; show tokL L1 st + 1 = _; rw [et]
    have y4 : y.num = num := by rw [hy]; rfl
    have y5 : y.unt = tn + 6 := by rw [hy]; rfl
    rw [← hy] at H15 ⊢
    have nm2 : (pt Lz.name L1 y).map Lz.name = zs := by rw [pt_nm (L := L1) (z := y) (by rw [y1]; exact ef1), nm1, A.nm]
    have fd2 : ∀ x, fd Lz.name (pt Lz.name L1 y) x = if st = x then some y else fd Lz.name L1 x := fun x => by rw [fd_pt, y1]
    have eyD : lzD y = .tuple [.str st, .int (z.tok + 1), .int num, .int (tn + 6)] := by unfold lzD rowZ; rw [y1, y3, y4, y5]
    have tg2 : tget (dataKV (rk Lz.name lzD (pt Lz.name L1 y))) (.inr st) = some (.d (.tuple [.str st, .int (z.tok + 1), .int num, .int (tn + 6)])) := by rw [tget_rk, fd2, if_pos rfl, ← eyD]; rfl
    have y7 : z.name = st := enz
    have oky : okD 1 (.tuple [.str st, .int (z.tok + 1), .int num, .int (tn + 6)]) = true := by
      rw [← eyD]
      exact (lz_ok (n := 1000) (by omega) ⟨by rw [y1, ← enz]; exact zo.1, by omega, by omega, by omega, by omega, by omega⟩)
    have H16 : Ls (updM M15 g (.dic (dataKV (rk Lz.name lzD (pt Lz.name L1 y))))) s d1 d2 (pt Lz.name L1 y) := H15.keep fun q hq => updM_ne (by
      rcases hq with rfl | rfl | rfl
      · exact q5
      · exact A.n1.symm
      · exact A.n2.symm)
    have b16 : Bag (updM M15 g (.dic (dataKV (rk Lz.name lzD (pt Lz.name L1 y))))) p := bag_keep b15 (updM_ne q4)
    have la16 : updM M15 g (.dic (dataKV (rk Lz.name lzD (pt Lz.name L1 y)))) g = some (.dic (dataKV (rk Lz.name lzD (pt Lz.name L1 y)))) := updM_same
    generalize updM M15 g (.dic (dataKV (rk Lz.name lzD (pt Lz.name L1 y)))) = M16 at H16 b16 la16 ⊢
    refine ⟨_, rfl, _, rfl, g, _, .inr st, _, rfl, .inl la16, rfl, tg2, ?_⟩
    refine ⟨_, rfl, _, rfl, _, _, rfl, rfl, rfl, .inl ⟨_, _, rfl, rfl, _, rfl, _, rfl, .inl ⟨_, _, rfl, rfl, ?_⟩⟩⟩
    refine ⟨_, rfl, few (by simp), _, _, .d, .d, eqOk2_of (by decide) oky oky, _, rfl, ?_⟩
    rw [refl_of oky]
    refine iteF ⟨_, rfl, p, 2, rfl, b16, by decide, by decide, fun c3 M17 c30 c31 b17 f17 => ?_⟩
    have H17 : Ls M17 s d1 d2 (pt Lz.name L1 y) := H16.keep fun q hq => f17 q (by
      rcases hq with rfl | rfl | rfl
      · exact q1.symm
      · exact q2.symm
      · exact q3.symm)
    have la17 : M17 g = some (.dic (dataKV (rk Lz.name lzD (pt Lz.name L1 y)))) := by rw [f17 g q4.symm, la16]
    refine ⟨_, _, .d, .d, rfl, _, rfl, ?_⟩
    rw [eqv_int']
    by_cases hc3 : ¬ c3 = 0
    · rw [decide_eq_false hc3]
      exact iteF ⟨_, _, _, _, _, _, _, _, fin M17 _ y nm2 fd2 y1 y2 y3 (by omega) (by omega) (by omega) (by omega) b17 H17 la17, rfl⟩
    rw [decide_eq_true (Decidable.not_not.mp hc3)]
    refine iteT ⟨_, rfl, _, rfl, p, 6, rfl, b17, by decide, by decide, fun c4 M18 c40 c41 b18 f18 => .inl ⟨_, _, rfl, rfl, ?_⟩⟩
    have H18 : Ls M18 s d1 d2 (pt Lz.name L1 y) := H17.keep fun q hq => f18 q (by
      rcases hq with rfl | rfl | rfl
      · exact q1.symm
      · exact q2.symm
      · exact q3.symm)
    have la18 : M18 g = some (.dic (dataKV (rk Lz.name lzD (pt Lz.name L1 y)))) := by rw [f18 g q4.symm, la17]
    have l2 : (pt Lz.name L1 y).length ≤ 10 := by
      have := congrArg List.length nm2
      rw [List.length_map] at this
      omega
    have nd2 : ((pt Lz.name L1 y).map Lz.name).Nodup := by rw [nm2]; exact hznd
    have efy : fd Lz.name (pt Lz.name L1 y) st = some y := by rw [fd2, if_pos rfl]
    refine ⟨_, rfl, s, _, rfl, H18.hs, lk_renew, _, rfl, _, rfl, s, d1, d2, pt Lz.name L1 y, st, tn + c4, rfl, H18, by omega, nd2, (fun h => absurd (show tn + c4 < y.unt by omega) (h y efy y2)), fun y' ey' _ _ M19 H19 f19 => ?_⟩
    rw [efy] at ey'
    cases ey'
    have la19 : M19 g = some (.dic (dataKV (rk Lz.name lzD (pt Lz.name L1 y)))) := by rw [f19 g A.n1 A.n2, la18]
    have b19 : Bag M19 p := bag_keep b18 (f19 p q2 q3)
    refine ⟨_, rfl, _, rfl, g, _, .inr st, rfl, la19, rfl, by rw [rk_len]; omega, ?_⟩
    have x1 : (reZ y (tn + c4)).name = st := y1
    rw [tput_rk (nm := Lz.name) lzD (pt Lz.name L1 y) (reZ y (tn + c4)) (n := st) x1]
    have x5 : (reZ y (tn + c4)).unt = tn + c4 + 6 := by
      show mx y.unt (tn + c4 + 6) = _
      unfold mx
      rw [y5]
      split <;> omega
    have exD : lzD (reZ y (tn + c4)) = .tuple [.str st, .int (z.tok + 1), .int num, .int (tn + c4 + 6)] := by
      unfold lzD rowZ
      rw [x5, x1, show (reZ y (tn + c4)).tok = z.tok + 1 from y3, show (reZ y (tn + c4)).num = num from y4]
    have nm3 : (pt Lz.name (pt Lz.name L1 y) (reZ y (tn + c4))).map Lz.name = zs := by rw [pt_nm (L := pt Lz.name L1 y) (z := reZ y (tn + c4)) (by rw [x1]; exact efy), nm2]
    have fd3 : ∀ x, fd Lz.name (pt Lz.name (pt Lz.name L1 y) (reZ y (tn + c4))) x = if st = x then some (reZ y (tn + c4)) else fd Lz.name L1 x := fun x => by
      rw [fd_pt, x1]
      by_cases hx : st = x
      · rw [if_pos hx, if_pos hx]
      · rw [if_neg hx, if_neg hx, fd2, if_neg hx]
    have tg3 : tget (dataKV (rk Lz.name lzD (pt Lz.name (pt Lz.name L1 y) (reZ y (tn + c4))))) (.inr st) = some (.d (.tuple [.str st, .int (z.tok + 1), .int num, .int (tn + c4 + 6)])) := by rw [tget_rk, fd3, if_pos rfl, ← exD]; rfl
    have okx : okD 1 (.tuple [.str st, .int (z.tok + 1), .int num, .int (tn + c4 + 6)]) = true := by
      rw [← exD]
      exact (lz_ok (n := 1000) (by omega) ⟨by rw [x1, ← enz]; exact zo.1, by show 0 ≤ y.tok; omega, by show y.tok ≤ _; omega, by show 0 ≤ y.num; omega, by show y.num ≤ _; omega, by rw [x5]; omega⟩)
    refine ⟨_, rfl, _, rfl, g, _, .inr st, _, rfl, .inl updM_same, rfl, tg3, ?_⟩
    refine ⟨_, rfl, _, rfl, _, _, rfl, rfl, rfl, .inl ⟨_, _, rfl, rfl, _, rfl, _, rfl, .inl ⟨_, _, rfl, rfl, _, rfl, few (by simp), _, _, .d, .d, eqOk2_of (by decide) okx okx, _, rfl, ?_⟩⟩⟩
    rw [refl_of okx]
    refine iteF ⟨_, _, _, _, _, _, _, _, fin _ _ (reZ y (tn + c4)) nm3 fd3 x1 y2 y3 (by show 0 ≤ y.num; omega) (by show y.num ≤ _; omega) (by omega) (by omega) (bag_keep b19 (updM_ne q4)) (H19.keep fun q hq => updM_ne ?_) updM_same, rfl⟩
    rcases hq with rfl | rfl | rfl
    · exact q5
    · exact A.n1.symm
    · exact A.n2.symm
  · rintro τ M7 ⟨L, x4, x6, x7, x8, x9, x10, x11, A, rfl⟩
    have hcnt : (rangeW 0 (4 + n6).toNat).length ≤ 20 := by simp only [rangeW, List.length_map, List.length_range]; omega
    generalize (rangeW 0 (4 + n6).toNat).length = cnt at A hcnt
    have hlz : L.length ≤ 10 := by
      have := congrArg List.length A.nm
      rw [List.length_map] at this
      omega
    obtain ⟨q1, q2, q3, q4, q5⟩ := A.ph
    refine ⟨_, rfl, s, _, rfl, A.ls.hs, lk_all, s, d1, d2, L, rfl, A.ls, A.zz.nd, by omega, fun rows g1 g2 c hc => ?_⟩
    have gc : g ≠ c := fun e => by rw [← e, A.la] at hc; cases hc
    have la8 : updM M7 c (.lst (tupsW rows)) g = some (.dic (dataKV (rk Lz.name lzD L))) := by rw [updM_ne gc]; exact A.la
    refine ⟨_, rfl, g, _, L.map Lz.name, rfl, la8, by simp [dataKV, rk], by rw [List.length_map]; omega, fun z1 p1 s1 a ha => ⟨a, z1.map PyData.str, rfl, by rw [updM_same]; simp [strsW], _, rfl, ?_⟩⟩
    rw [del_upd ha]
    have hl1 : z1.length = L.length := by rw [p1.length_eq, List.length_map]
    refine lc_pure (fun w => match w with | .d (.str x) => (dueF L x).map PyData.tuple | _ => none) (by rw [List.length_map, List.length_map]; omega) (fun w hw P' hp => ?_) ?_
    · obtain ⟨d, hd, rfl⟩ := List.mem_map.mp hw
      obtain ⟨x, hx, rfl⟩ := List.mem_map.mp hd
      obtain ⟨y, hy, eyn⟩ := List.mem_map.mp (p1.mem_iff.mp hx)
      have ey : fd Lz.name L x = some y := by rw [← eyn]; exact fd_at A.zz.nd hy
      have : dueF L x = some (rowZ y) := dueF_all ey (A.hd y hy)
      dsimp only at hp
      rw [this] at hp
      have tgx : tget (dataKV (rk Lz.name lzD L)) (.inr x) = some (.d (lzD y)) := by rw [tget_rk, ey]; rfl
      exact ⟨_, rfl, _, rfl, g, _, .inr x, _, rfl, .inl la8, rfl, tgx, _, rfl, rfl, hp⟩
    have efm : List.filterMap (fun w => match w with | .d (.str x) => (dueF L x).map PyData.tuple | _ => none) ((z1.map PyData.str).map W.d) = (z1.filterMap (dueF L)).map PyData.tuple := by
      rw [List.map_map, List.filterMap_map, List.map_filterMap]
      rfl
    rw [efm]
    obtain ⟨dp, dw⟩ := due_rows A.zz.nd p1 s1
    generalize z1.filterMap (dueF L) = due at dp dw
    have er : rows = due := S.sorted_uniq (sh := [true, false, false, false]) (fun r hr => held_shape L r (g1.mem_iff.mp hr)) (g1.trans dp.symm) g2 dw
    subst er
    have dsub : ∀ r ∈ rows, ∃ z ∈ L, r = rowZ z := fun r hr => by
      obtain ⟨z, hz, e⟩ := List.mem_map.mp (dp.mem_iff.mp hr)
      exact ⟨z, (List.mem_filter.mp hz).1, e.symm⟩
    have dlen : rows.length ≤ 60 := by
      rw [dp.length_eq]
      have := held_len L
      omega
    obtain ⟨ok1, ok2⟩ := rows_ok (by omega) A.zz dsub dlen
    refine ⟨_, _, .l (ds := rows.map PyData.tuple) (by rw [updM_same, tups_d]), .d, eqOk2_of (by decide) ok1 ok1, ?_⟩
    rw [refl_of ok1]
    exact k _
end K73
set_option Elab.async false
set_option linter.all false
set_option maxRecDepth 100000
set_option maxHeartbeats 4000000
namespace K73
open PySem PySem.Spec PyProof.Rows L2 D Stc
def top (i : Nat) : Stmt := PySem.Challenge.pw_placedworks_k73_let_go.main.body.getD i (.Pass ⟨0, 0, 0, 0⟩)
abbrev s_l_bag : Stmt := top 7
abbrev s_l_take : Stmt := top 8
abbrev s_l_word : Stmt := top 9
abbrev s_l_stores : Stmt := top 10
abbrev s_Leases_init : Stmt := inClass (top 5) 0
abbrev s_Leases_lease_of : Stmt := inClass (top 5) 5
abbrev s_Leases_let_go : Stmt := inClass (top 5) 3
abbrev s_Early_init : Stmt := inClass (top 2) 0
abbrev s_Leases_token_of : Stmt := inClass (top 5) 6
abbrev s_Leases_give : Stmt := inClass (top 5) 1
abbrev s_Leases_until_of : Stmt := inClass (top 5) 7
abbrev s_Leases_renew : Stmt := inClass (top 5) 2
abbrev s_l_renewed : Stmt := top 11
abbrev s_Leases_all_leases : Stmt := inClass (top 5) 4
abbrev s_l_gone : Stmt := top 12
abbrev s_law : Stmt := top 13
structure Env (K : PySem.W.Frag) (mg : Str → Option Value) : Prop where
  k_Leases : Cls K C_Leases
  m_Leases : mg "Leases" = some (.ref C_Leases)
  m_Early : mg "Early" = some (.ref C_Early)
  x_Early : XO.XC K C_Early
  e_Early_Early : PySem.W.exmOne K (.ref C_Early) (.ref C_Early) = some true
  n_Early_until : NoAttr K C_Early "until"
  n_Leases_last : NoAttr K C_Leases "last"
  n_Leases_let : NoAttr K C_Leases "let"
  b_abs : mg "abs" = none
  b_int : mg "int" = none
  b_len : mg "len" = none
  b_max : mg "max" = none
  b_range : mg "range" = none
  b_sorted : mg "sorted" = none
  c_LEASE : ∃ t, mg "LEASE" = some (.int 6 t)
section
variable {P : Program} {w : World} {K : PySem.W.Frag} {mg : Str → Option Value} {base : Heap}
theorem ndc_0 : (["_law_cell"] : List Str).Nodup := by decide +kernel
theorem sc_l_bag : FnScope N_l_bag ["_law_script"] (defScope s_l_bag) := ⟨rfl, rfl, rfl, by decide +kernel, rfl, by decide +kernel, by decide +kernel⟩
set_option maxHeartbeats 0 in
theorem ok_l_bag {f : Addr} {fd : FuncData} (E : Env K mg) (F : Fn K mg "_law_bag" s_l_bag ["_law_script"] f fd) :
    FnOk P w K mg base CX0 1 f fd ["_law_script"] (upSp K sp_l_bag) := by
  refine fun_ok (t := t_l_bag) F.fn sc_l_bag len_l_bag (fun cdv A outer s H E' hr => ?_) read_l_bag
  refine Jd.h ?_
  exact Q.pssd_one (Q.psd_ret (Q.pd_lstM (Q.pac (Q.pd_int) (Q.pac (Q.pd_int) (Q.pac (Q.pd_int) (Q.pac (Q.pd_lc rfl (lcOk (own := (["_law_cell"] : List Str)) (fr := []) rfl) (Q.pid_items (Q.pd_slice (Q.dv 0) (Q.pod_none) (Q.pod_some (Q.pd_int)))) (fun _ _ _ _ _ _ => Q.pgd_name (i := 0) ndc_0 rfl (Or.inl rfl)) (fun _ _ _ _ _ _ => Q.ptsd_nil) (fun _ _ _ _ _ _ => Q.pcB call_abs cd_abs rfl E.b_abs bb_abs (Q.pac (Q.dv 0) (Q.pad_nil)))) (Q.pad_nil)))))))
theorem sc_l_take : FnScope N_l_take ["_law_bag_here", "_law_many"] (defScope s_l_take) := ⟨rfl, rfl, rfl, by decide +kernel, rfl, by decide +kernel, by decide +kernel⟩
set_option maxHeartbeats 0 in
theorem ok_l_take {f : Addr} {fd : FuncData} (E : Env K mg) (F : Fn K mg "_law_take" s_l_take ["_law_bag_here", "_law_many"] f fd) :
    FnOk P w K mg base CX0 1 f fd ["_law_bag_here", "_law_many"] (upSp K sp_l_take) := by
  refine fun_ok (t := t_l_take) F.fn sc_l_take len_l_take (fun cdv A outer s H E' hr => ?_) read_l_take
  refine Jd.h ?_
  exact Q.pssd_cons (Q.psd_if (Q.ptd_cmp (op_eqD hr) opd_eq (Q.pd_ix ix_seq opd_ix (Q.dv 0) (Q.pd_int)) (Q.pd_int))
      (Q.pssd_cons (Q.psd_set (i := 2) sc_l_take.nd rfl (Or.inl rfl) (Q.pd_int)) <|
      Q.pssd_cons (Q.psd_if (Q.ptd_cmp op_lt opd_lt (Q.pd_ix ix_seq opd_ix (Q.dv 0) (Q.pd_int)) (Q.pcB call_len cd_len rfl E.b_len bb_len (Q.pac (Q.pd_ix ix_seq opd_ix (Q.dv 0) (Q.pd_int)) (Q.pad_nil))))
        (Q.pssd_one (Q.psd_set (i := 2) sc_l_take.nd rfl (Or.inl rfl) (Q.pd_ix ix_seq opd_ix (Q.pd_ix ix_seq opd_ix (Q.dv 0) (Q.pd_int)) (Q.pd_ix ix_seq opd_ix (Q.dv 0) (Q.pd_int)))))
        (Q.pssd_nil)) <|
      Q.pssd_cons (Q.psd_augS (Q.dv 0) (Q.pd_int) (Q.pd_int) ip_add) <|
      Q.pssd_cons (Q.psd_if (Q.ptd_cmp op_ge opd_ge (Q.dv 2) (Q.pd_int))
        (Q.pssd_one (Q.psd_asg (Q.dv 2) (Q.pgd_sub (Q.dv 0) (Q.pd_int))))
        (Q.pssd_nil)) <|
      Q.pssd_one (Q.psd_asg (Q.pd_op op_mod opd_mod (Q.pd_op op_add2 opd_add2 (Q.pd_op op_add2 opd_add2 (Q.pd_op op_mul opd_mul (Q.pd_ix ix_seq opd_ix (Q.dv 0) (Q.pd_int)) (Q.pd_int)) (Q.pd_op op_mod opd_mod (Q.dv 2) (Q.pd_int))) (Q.pd_op op_mul opd_mul (Q.pd_int) (Q.pd_ix ix_seq opd_ix (Q.dv 0) (Q.pd_int)))) (Q.pd_int)) (Q.pgd_sub (Q.dv 0) (Q.pd_int))))
      (Q.pssd_nil)) <|
    Q.pssd_cons (Q.psd_if (Q.ptd_cmp op_gt opd_gt (Q.pd_ix ix_seq opd_ix (Q.dv 0) (Q.pd_int)) (Q.pd_int))
      (Q.pssd_cons (Q.psd_set (i := 3) sc_l_take.nd rfl (Or.inl rfl) (Q.pd_op op_mod opd_mod (Q.pd_ix ix_seq opd_ix (Q.dv 0) (Q.pd_int)) (Q.dv 1))) <|
      Q.pssd_cons (Q.psd_asg (Q.pd_op op_fdiv opd_div (Q.pd_ix ix_seq opd_ix (Q.dv 0) (Q.pd_int)) (Q.dv 1)) (Q.pgd_sub (Q.dv 0) (Q.pd_int))) <|
      Q.pssd_one (Q.psd_ret (Q.dv 3)))
      (Q.pssd_nil)) <|
    Q.pssd_cons (Q.psd_set (i := 4) sc_l_take.nd rfl (Or.inl rfl) (Q.pd_op op_mod opd_mod (Q.pd_op op_mul opd_mul (Q.pd_op op_add2 opd_add2 (Q.pd_ix ix_seq opd_ix (Q.dv 0) (Q.pd_int)) (Q.pd_int)) (Q.pd_int)) (Q.pd_int))) <|
    Q.pssd_cons (Q.psd_set (i := 5) sc_l_take.nd rfl (Or.inl rfl) (Q.pd_op op_mod opd_mod (Q.pd_op op_mul opd_mul (Q.pd_op op_mod opd_mod (Q.pd_op op_mul opd_mul (Q.dv 4) (Q.dv 4)) (Q.pd_int)) (Q.pd_int)) (Q.pd_int))) <|
    Q.pssd_cons (Q.psd_if (Q.ptd_cmp op_gt opd_gt (Q.dv 1) (Q.pd_int))
      (Q.pssd_one (Q.psd_ret (Q.pd_op op_mod opd_mod (Q.pd_op op_add2 opd_add2 (Q.pd_op op_mul opd_mul (Q.dv 5) (Q.pd_int)) (Q.dv 4)) (Q.dv 1))))
      (Q.pssd_nil)) <|
    Q.pssd_one (Q.psd_ret (Q.pd_op op_mod opd_mod (Q.pd_op op_fdiv opd_div (Q.dv 5) (Q.pd_int)) (Q.dv 1)))
theorem ndc_1 : (["_law_k", "_law_letters", "_law_bag_here"] : List Str).Nodup := by decide +kernel
theorem sc_l_word : FnScope N_l_word ["_law_bag_here"] (defScope s_l_word) := ⟨rfl, rfl, rfl, by decide +kernel, rfl, by decide +kernel, by decide +kernel⟩
set_option maxHeartbeats 0 in
theorem ok_l_word {f : Addr} {fd : FuncData} (E : Env K mg) (F : Fn K mg "_law_word" s_l_word ["_law_bag_here"] f fd)
    {f_l_take : Addr} {fd_l_take : FuncData} (G_l_take : Fn K mg "_law_take" s_l_take ["_law_bag_here", "_law_many"] f_l_take fd_l_take) (O_l_take : FnOk P w K mg base CX0 1 f_l_take fd_l_take ["_law_bag_here", "_law_many"] (upSp K sp_l_take)) :
    FnOk P w K mg base CX0 2 f fd ["_law_bag_here"] (upSp K sp_l_word) := by
  refine fun_ok (t := t_l_word sp_l_take) F.fn sc_l_word len_l_word (fun cdv A outer s H E' hr => ?_) read_l_word
  refine Jd.h ?_
  exact Q.pssd_cons (Q.psd_set (i := 1) sc_l_word.nd rfl (Or.inr rfl) (Q.pd_str)) <|
    Q.pssd_one (Q.psd_ret (Q.pd_join (Q.pd_str) (Q.pd_lc rfl (lcOk (own := (["_law_k"] : List Str)) (fr := [1, 0]) rfl) (Q.pid_range1 rfl E.b_range (Q.pac (Q.pd_op op_add2 opd_add2 (Q.pd_int) (Q.pcF O_l_take (hr.mono (by decide)) rfl G_l_take.mg G_l_take.fn.kp G_l_take.bd (Q.pac (Q.dv 0) (Q.pac (Q.pd_int) (Q.pad_nil))))) (Q.pad_nil))) (fun _ _ _ _ _ _ => Q.pgd_name (i := 0) ndc_1 rfl (Or.inl rfl)) (fun _ _ _ _ _ _ => Q.ptsd_nil) (fun _ _ _ _ _ _ => Q.pd_ix ix_seq opd_ix (Q.dv 1) (Q.pcF O_l_take (hr.mono (by decide)) rfl G_l_take.mg G_l_take.fn.kp G_l_take.bd (Q.pac (Q.dv 2) (Q.pac (Q.pd_int) (Q.pad_nil))))))))
theorem sc_l_stores : FnScope N_l_stores ["_law_bag_here"] (defScope s_l_stores) := ⟨rfl, rfl, rfl, by decide +kernel, rfl, by decide +kernel, by decide +kernel⟩
set_option maxHeartbeats 0 in
theorem ok_l_stores {f : Addr} {fd : FuncData} (E : Env K mg) (F : Fn K mg "_law_stores" s_l_stores ["_law_bag_here"] f fd)
    {f_l_word : Addr} {fd_l_word : FuncData} (G_l_word : Fn K mg "_law_word" s_l_word ["_law_bag_here"] f_l_word fd_l_word) (O_l_word : FnOk P w K mg base CX0 2 f_l_word fd_l_word ["_law_bag_here"] (upSp K sp_l_word))
    {f_l_take : Addr} {fd_l_take : FuncData} (G_l_take : Fn K mg "_law_take" s_l_take ["_law_bag_here", "_law_many"] f_l_take fd_l_take) (O_l_take : FnOk P w K mg base CX0 1 f_l_take fd_l_take ["_law_bag_here", "_law_many"] (upSp K sp_l_take)) :
    FnOk P w K mg base CX0 3 f fd ["_law_bag_here"] (upSp K sp_l_stores) := by
  refine fun_ok (t := t_l_stores sp_l_word sp_l_take) F.fn sc_l_stores len_l_stores (fun cdv A outer s H E' hr => ?_) read_l_stores
  refine Jd.h ?_
  exact Q.pssd_cons (Q.psd_set (i := 1) sc_l_stores.nd rfl (Or.inl rfl) (Q.pcF O_l_word (hr.mono (by decide)) rfl G_l_word.mg G_l_word.fn.kp G_l_word.bd (Q.pac (Q.dv 0) (Q.pad_nil)))) <|
    Q.pssd_cons (Q.psd_set (i := 2) sc_l_stores.nd rfl (Or.inl rfl) (Q.pd_op op_add2 opd_add2 (Q.pd_int) (Q.pcF O_l_take (hr.mono (by decide)) rfl G_l_take.mg G_l_take.fn.kp G_l_take.bd (Q.pac (Q.dv 0) (Q.pac (Q.pd_int) (Q.pad_nil)))))) <|
    Q.pssd_cons (Q.psd_set (i := 3) sc_l_stores.nd rfl (Or.inl rfl) (Q.pcF O_l_take (hr.mono (by decide)) rfl G_l_take.mg G_l_take.fn.kp G_l_take.bd (Q.pac (Q.dv 0) (Q.pac (Q.pd_int) (Q.pad_nil))))) <|
    Q.pssd_cons (Q.psd_set (i := 4) sc_l_stores.nd rfl (Or.inl rfl) (Q.pcF O_l_take (hr.mono (by decide)) rfl G_l_take.mg G_l_take.fn.kp G_l_take.bd (Q.pac (Q.dv 0) (Q.pac (Q.pd_int) (Q.pad_nil))))) <|
    Q.pssd_cons (Q.psd_set (i := 5) sc_l_stores.nd rfl (Or.inl rfl) (Q.pd_lstM (Q.pac (Q.dv 1) (Q.pad_nil)))) <|
    Q.pssd_cons (Q.psd_for PassesOwn.never rfl (Q.pid_range1 rfl E.b_range (Q.pac (Q.dv 2) (Q.pad_nil))) (Q.pgd_name (i := 6) sc_l_stores.nd rfl (Or.inl rfl))
      (Q.pssd_cons (Q.psd_set (i := 7) sc_l_stores.nd rfl (Or.inl rfl) (Q.pd_op op_add2 opd_add2 (Q.pd_slice (Q.dv 1) (Q.pod_none) (Q.pod_some (Q.pd_un un_neg und_neg (Q.pd_int)))) (Q.pd_ix ix_seq opd_ix (Q.pd_str) (Q.pd_op op_mod opd_mod (Q.pd_op op_add2 opd_add2 (Q.dv 4) (Q.dv 6)) (Q.pd_int))))) <|
      Q.pssd_cons (Q.psd_if (Q.ptd_cmp (op_eqT hr) opd_eqT (Q.dv 3) (Q.pd_int))
        (Q.pssd_one (Q.psd_set (i := 7) sc_l_stores.nd rfl (Or.inl rfl) (Q.pcF O_l_word (hr.mono (by decide)) rfl G_l_word.mg G_l_word.fn.kp G_l_word.bd (Q.pac (Q.dv 0) (Q.pad_nil)))))
        (Q.pssd_nil)) <|
      Q.pssd_one (Q.psd_if (Q.ptd_cmp op_notIn_seq (opd_inS' true) (Q.dv 7) (Q.dv 5))
        (Q.pssd_one (Q.psd_expr (Q.pd_append (Q.dv 5) (Q.dv 7))))
        (Q.pssd_nil)))) <|
    Q.pssd_cons (Q.psd_if (Q.ptd_cmp (op_eqT hr) opd_eqT (Q.pcB call_len cd_len rfl E.b_len bb_len (Q.pac (Q.dv 5) (Q.pad_nil))) (Q.pd_int))
      (Q.pssd_one (Q.psd_expr (Q.pd_append (Q.dv 5) (Q.pd_ix ix_seq opd_ix (Q.pd_lst (Q.pac (Q.pd_str) (Q.pac (Q.pd_str) (Q.pad_nil)))) (Q.pcT call_int1 cd_int rfl E.b_int bt_int (Q.pac (Q.pd_cmp (op_eqT hr) opd_eqT (Q.dv 1) (Q.pd_str)) (Q.pad_nil)))))))
      (Q.pssd_nil)) <|
    Q.pssd_one (Q.psd_ret (Q.pd_seal (Q.dv 5)))
theorem sc_Leases_init : FnScope N_Leases_init ["self"] (defScope s_Leases_init) := ⟨rfl, rfl, rfl, by decide +kernel, rfl, by decide +kernel, by decide +kernel⟩
set_option maxHeartbeats 0 in
theorem ok_Leases_init {f : Addr} {fd : FuncData} (E : Env K mg) (F : Mi K C_Leases "Leases.__init__" s_Leases_init ["self"] f fd) :
    FnOk P w K mg base CX0 1 f fd ["self"] (upSp K sp_Leases_init) := by
  refine fun_ok (t := t_Leases_init) F.fn sc_Leases_init len_Leases_init (fun cdv A outer s H E' hr => ?_) read_Leases_init
  refine Jd.h ?_
  exact Q.pssd_cons (Q.psd_fld E.k_Leases E.n_Leases_last (Q.dv 0) (Q.pd_newDic)) <|
    Q.pssd_one (Q.psd_fld E.k_Leases E.n_Leases_let (Q.dv 0) (Q.pd_newDic))
theorem sc_Leases_lease_of : FnScope N_Leases_lease_of ["self", "store"] (defScope s_Leases_lease_of) := ⟨rfl, rfl, rfl, by decide +kernel, rfl, by decide +kernel, by decide +kernel⟩
set_option maxHeartbeats 0 in
theorem ok_Leases_lease_of {f : Addr} {fd : FuncData} (E : Env K mg) (F : Mf K C_Leases "lease_of" "Leases.lease_of" s_Leases_lease_of ["self", "store"] f fd) :
    FnOk P w K mg base CX0 1 f fd ["self", "store"] (upSp K sp_Leases_lease_of) := by
  refine fun_ok (t := t_Leases_lease_of) F.fn sc_Leases_lease_of len_Leases_lease_of (fun cdv A outer s H E' hr => ?_) read_Leases_lease_of
  refine Jd.h ?_
  exact Q.pssd_cons (Q.psd_if (Q.ptd_w (Q.pwd_or (Q.ptd_dnotin (hu_of hr) (Q.dv 1) (Q.pd_fld E.k_Leases E.n_Leases_last (Q.dv 0))) (Q.pwd_or1 (Q.ptd_val (Q.pd_dget (hu_of hr) (Q.pd_fld E.k_Leases E.n_Leases_let (Q.dv 0)) (Q.dv 1))))))
      (Q.pssd_one (Q.psd_ret (Q.pd_non)))
      (Q.pssd_nil)) <|
    Q.pssd_one (Q.psd_ret (Q.pd_dget (hu_of hr) (Q.pd_fld E.k_Leases E.n_Leases_last (Q.dv 0)) (Q.dv 1)))
theorem sc_Leases_let_go : FnScope N_Leases_let_go ["self", "store"] (defScope s_Leases_let_go) := ⟨rfl, rfl, rfl, by decide +kernel, rfl, by decide +kernel, by decide +kernel⟩
set_option maxHeartbeats 0 in
theorem ok_Leases_let_go {f : Addr} {fd : FuncData} (E : Env K mg) (F : Mf K C_Leases "let_go" "Leases.let_go" s_Leases_let_go ["self", "store"] f fd)
    {f_Leases_lease_of : Addr} {fd_Leases_lease_of : FuncData} (G_Leases_lease_of : Mf K C_Leases "lease_of" "Leases.lease_of" s_Leases_lease_of ["self", "store"] f_Leases_lease_of fd_Leases_lease_of) (O_Leases_lease_of : FnOk P w K mg base CX0 1 f_Leases_lease_of fd_Leases_lease_of ["self", "store"] (upSp K sp_Leases_lease_of)) :
    FnOk P w K mg base CX0 2 f fd ["self", "store"] (upSp K sp_Leases_let_go) := by
  refine fun_ok (t := t_Leases_let_go sp_Leases_lease_of) F.fn sc_Leases_let_go len_Leases_let_go (fun cdv A outer s H E' hr => ?_) read_Leases_let_go
  refine Jd.h ?_
  exact Q.pssd_cons (Q.psd_if (Q.ptd_cmp op_isN opd_isN (Q.pd_meth (Q.dv 0) E.k_Leases G_Leases_lease_of.me O_Leases_lease_of (hr.mono (by decide)) G_Leases_lease_of.bd (Q.pac (Q.dv 1) (Q.pad_nil))) (Q.pd_non))
      (Q.pssd_one (Q.psd_ret (Q.pd_bl)))
      (Q.pssd_nil)) <|
    Q.pssd_cons (Q.psd_dput (hu_of hr) (Q.pd_fld E.k_Leases E.n_Leases_let (Q.dv 0)) (Q.dv 1) (Q.pd_bl)) <|
    Q.pssd_one (Q.psd_ret (Q.pd_bl))
theorem sc_Early_init : FnScope N_Early_init ["self", "until"] (defScope s_Early_init) := ⟨rfl, rfl, rfl, by decide +kernel, rfl, by decide +kernel, by decide +kernel⟩
theorem ok_Early_init {f : Addr} {fd : FuncData} (E : Env K mg) (F : Xi K C_Early "Early.__init__" s_Early_init ["self", "until"] f fd) : FnOk P w K mg base CX0 1 f fd ["self", "until"] (xinit C_Early ["until"]) := init1 F.fn sc_Early_init F.xm.xc E.n_Early_until rfl (fun _ => rfl) rfl rfl
theorem sc_Leases_token_of : FnScope N_Leases_token_of ["self", "store"] (defScope s_Leases_token_of) := ⟨rfl, rfl, rfl, by decide +kernel, rfl, by decide +kernel, by decide +kernel⟩
set_option maxHeartbeats 0 in
theorem ok_Leases_token_of {f : Addr} {fd : FuncData} (E : Env K mg) (F : Mf K C_Leases "token_of" "Leases.token_of" s_Leases_token_of ["self", "store"] f fd) :
    FnOk P w K mg base CX0 1 f fd ["self", "store"] (upSp K sp_Leases_token_of) := by
  refine fun_ok (t := t_Leases_token_of) F.fn sc_Leases_token_of len_Leases_token_of (fun cdv A outer s H E' hr => ?_) read_Leases_token_of
  refine Jd.h ?_
  exact Q.pssd_cons (Q.psd_if (Q.ptd_dnotin (hu_of hr) (Q.dv 1) (Q.pd_fld E.k_Leases E.n_Leases_last (Q.dv 0)))
      (Q.pssd_one (Q.psd_ret (Q.pd_int)))
      (Q.pssd_nil)) <|
    Q.pssd_one (Q.psd_ret (Q.pd_ix ix_seq opd_ix (Q.pd_dget (hu_of hr) (Q.pd_fld E.k_Leases E.n_Leases_last (Q.dv 0)) (Q.dv 1)) (Q.pd_int)))
theorem sc_Leases_give : FnScope N_Leases_give ["self", "store", "number", "turn"] (defScope s_Leases_give) := ⟨rfl, rfl, rfl, by decide +kernel, rfl, by decide +kernel, by decide +kernel⟩
set_option maxHeartbeats 0 in
theorem ok_Leases_give {f : Addr} {fd : FuncData} (E : Env K mg) (F : Mf K C_Leases "give" "Leases.give" s_Leases_give ["self", "store", "number", "turn"] f fd)
    {f_Leases_lease_of : Addr} {fd_Leases_lease_of : FuncData} (G_Leases_lease_of : Mf K C_Leases "lease_of" "Leases.lease_of" s_Leases_lease_of ["self", "store"] f_Leases_lease_of fd_Leases_lease_of) (O_Leases_lease_of : FnOk P w K mg base CX0 1 f_Leases_lease_of fd_Leases_lease_of ["self", "store"] (upSp K sp_Leases_lease_of))
    {f_Early_init : Addr} {fd_Early_init : FuncData} (G_Early_init : Xi K C_Early "Early.__init__" s_Early_init ["self", "until"] f_Early_init fd_Early_init) (O_Early_init : FnOk P w K mg base CX0 1 f_Early_init fd_Early_init ["self", "until"] (xinit C_Early ["until"]))
    {f_Leases_token_of : Addr} {fd_Leases_token_of : FuncData} (G_Leases_token_of : Mf K C_Leases "token_of" "Leases.token_of" s_Leases_token_of ["self", "store"] f_Leases_token_of fd_Leases_token_of) (O_Leases_token_of : FnOk P w K mg base CX0 1 f_Leases_token_of fd_Leases_token_of ["self", "store"] (upSp K sp_Leases_token_of)) :
    FnOk P w K mg base (CXE P w) 3 f fd ["self", "store", "number", "turn"] (upSpX K sp_Leases_give) := by
  refine fun_okX (t := fun Ex => t_Leases_give Ex sp_Leases_lease_of sp_Leases_token_of) F.fn sc_Leases_give len_Leases_give (fun cdv A outer s H E' Ex hr hE hP => ?_) read_Leases_give
  refine Jd.h ?_
  exact Q.pssd_cons (Q.psd_set (i := 4) sc_Leases_give.nd rfl (Or.inl rfl) (Q.pd_meth (Q.dv 0) E.k_Leases G_Leases_lease_of.me O_Leases_lease_of (hr.mono (by decide)) G_Leases_lease_of.bd (Q.pac (Q.dv 1) (Q.pad_nil)))) <|
    Q.pssd_cons (Q.psd_if (Q.ptd_w (Q.pwd_and (Q.ptd_cmp op_notN opd_notN (Q.dv 4) (Q.pd_non)) (Q.pwd_and1 (Q.ptd_cmp op_lt opd_lt (Q.dv 3) (Q.pd_ix ix_seq opd_ix (Q.dv 4) (Q.pd_int))))))
      (Q.pssd_one (Q.psd_raise hE G_Early_init.xm O_Early_init (hr.mono (by decide)) rfl E.m_Early G_Early_init.bd (Q.pac (Q.pd_ix ix_seq opd_ix (Q.dv 4) (Q.pd_int)) (Q.pad_nil))))
      (Q.pssd_nil)) <|
    Q.pssd_cons (Q.psd_dput (hu_of hr) (Q.pd_fld E.k_Leases E.n_Leases_last (Q.dv 0)) (Q.dv 1) (Q.pd_tup (Q.pac (Q.dv 1) (Q.pac (Q.pd_op op_add2 opd_add2 (Q.pd_meth (Q.dv 0) E.k_Leases G_Leases_token_of.me O_Leases_token_of (hr.mono (by decide)) G_Leases_token_of.bd (Q.pac (Q.dv 1) (Q.pad_nil))) (Q.pd_int)) (Q.pac (Q.dv 2) (Q.pac (Q.pd_op op_add2 opd_add2 (Q.dv 3) (Q.pd_globI rfl (E.c_LEASE).choose_spec)) (Q.pad_nil))))))) <|
    Q.pssd_cons (Q.psd_dput (hu_of hr) (Q.pd_fld E.k_Leases E.n_Leases_let (Q.dv 0)) (Q.dv 1) (Q.pd_bl)) <|
    Q.pssd_one (Q.psd_ret (Q.pd_dget (hu_of hr) (Q.pd_fld E.k_Leases E.n_Leases_last (Q.dv 0)) (Q.dv 1)))
theorem sc_Leases_until_of : FnScope N_Leases_until_of ["self", "store"] (defScope s_Leases_until_of) := ⟨rfl, rfl, rfl, by decide +kernel, rfl, by decide +kernel, by decide +kernel⟩
set_option maxHeartbeats 0 in
theorem ok_Leases_until_of {f : Addr} {fd : FuncData} (E : Env K mg) (F : Mf K C_Leases "until_of" "Leases.until_of" s_Leases_until_of ["self", "store"] f fd) :
    FnOk P w K mg base CX0 1 f fd ["self", "store"] (upSp K sp_Leases_until_of) := by
  refine fun_ok (t := t_Leases_until_of) F.fn sc_Leases_until_of len_Leases_until_of (fun cdv A outer s H E' hr => ?_) read_Leases_until_of
  refine Jd.h ?_
  exact Q.pssd_cons (Q.psd_if (Q.ptd_dnotin (hu_of hr) (Q.dv 1) (Q.pd_fld E.k_Leases E.n_Leases_last (Q.dv 0)))
      (Q.pssd_one (Q.psd_ret (Q.pd_int)))
      (Q.pssd_nil)) <|
    Q.pssd_one (Q.psd_ret (Q.pd_ix ix_seq opd_ix (Q.pd_dget (hu_of hr) (Q.pd_fld E.k_Leases E.n_Leases_last (Q.dv 0)) (Q.dv 1)) (Q.pd_int)))
theorem sc_Leases_renew : FnScope N_Leases_renew ["self", "store", "turn"] (defScope s_Leases_renew) := ⟨rfl, rfl, rfl, by decide +kernel, rfl, by decide +kernel, by decide +kernel⟩
set_option maxHeartbeats 0 in
theorem ok_Leases_renew {f : Addr} {fd : FuncData} (E : Env K mg) (F : Mf K C_Leases "renew" "Leases.renew" s_Leases_renew ["self", "store", "turn"] f fd)
    {f_Leases_lease_of : Addr} {fd_Leases_lease_of : FuncData} (G_Leases_lease_of : Mf K C_Leases "lease_of" "Leases.lease_of" s_Leases_lease_of ["self", "store"] f_Leases_lease_of fd_Leases_lease_of) (O_Leases_lease_of : FnOk P w K mg base CX0 1 f_Leases_lease_of fd_Leases_lease_of ["self", "store"] (upSp K sp_Leases_lease_of))
    {f_Early_init : Addr} {fd_Early_init : FuncData} (G_Early_init : Xi K C_Early "Early.__init__" s_Early_init ["self", "until"] f_Early_init fd_Early_init) (O_Early_init : FnOk P w K mg base CX0 1 f_Early_init fd_Early_init ["self", "until"] (xinit C_Early ["until"]))
    {f_Leases_until_of : Addr} {fd_Leases_until_of : FuncData} (G_Leases_until_of : Mf K C_Leases "until_of" "Leases.until_of" s_Leases_until_of ["self", "store"] f_Leases_until_of fd_Leases_until_of) (O_Leases_until_of : FnOk P w K mg base CX0 1 f_Leases_until_of fd_Leases_until_of ["self", "store"] (upSp K sp_Leases_until_of)) :
    FnOk P w K mg base (CXE P w) 3 f fd ["self", "store", "turn"] (upSpX K sp_Leases_renew) := by
  refine fun_okX (t := fun Ex => t_Leases_renew Ex sp_Leases_lease_of sp_Leases_until_of) F.fn sc_Leases_renew len_Leases_renew (fun cdv A outer s H E' Ex hr hE hP => ?_) read_Leases_renew
  refine Jd.h ?_
  exact Q.pssd_cons (Q.psd_set (i := 3) sc_Leases_renew.nd rfl (Or.inl rfl) (Q.pd_meth (Q.dv 0) E.k_Leases G_Leases_lease_of.me O_Leases_lease_of (hr.mono (by decide)) G_Leases_lease_of.bd (Q.pac (Q.dv 1) (Q.pad_nil)))) <|
    Q.pssd_cons (Q.psd_if (Q.ptd_w (Q.pwd_or (Q.ptd_cmp op_isN opd_isN (Q.dv 3) (Q.pd_non)) (Q.pwd_or1 (Q.ptd_cmp op_ge opd_ge (Q.dv 2) (Q.pd_ix ix_seq opd_ix (Q.dv 3) (Q.pd_int))))))
      (Q.pssd_one (Q.psd_raise hE G_Early_init.xm O_Early_init (hr.mono (by decide)) rfl E.m_Early G_Early_init.bd (Q.pac (Q.pd_meth (Q.dv 0) E.k_Leases G_Leases_until_of.me O_Leases_until_of (hr.mono (by decide)) G_Leases_until_of.bd (Q.pac (Q.dv 1) (Q.pad_nil))) (Q.pad_nil))))
      (Q.pssd_nil)) <|
    Q.pssd_cons (Q.psd_asg (Q.dv 3) (Q.pgd_tup rfl (Q.pgsd_cons (Q.pgd_name (i := 4) sc_Leases_renew.nd rfl (Or.inl rfl)) (Q.pgsd_cons (Q.pgd_name (i := 5) sc_Leases_renew.nd rfl (Or.inl rfl)) (Q.pgsd_cons (Q.pgd_name (i := 6) sc_Leases_renew.nd rfl (Or.inl rfl)) (Q.pgsd_cons (Q.pgd_name (i := 7) sc_Leases_renew.nd rfl (Or.inl rfl)) (Q.pgsd_nil))))))) <|
    Q.pssd_cons (Q.psd_dput (hu_of hr) (Q.pd_fld E.k_Leases E.n_Leases_last (Q.dv 0)) (Q.dv 1) (Q.pd_tup (Q.pac (Q.dv 1) (Q.pac (Q.dv 5) (Q.pac (Q.dv 6) (Q.pac (Q.pcB (call_max2 rfl) cd_max2 rfl E.b_max bb_max (Q.pac (Q.dv 7) (Q.pac (Q.pd_op op_add2 opd_add2 (Q.dv 2) (Q.pd_globI rfl (E.c_LEASE).choose_spec)) (Q.pad_nil)))) (Q.pad_nil))))))) <|
    Q.pssd_one (Q.psd_ret (Q.pd_dget (hu_of hr) (Q.pd_fld E.k_Leases E.n_Leases_last (Q.dv 0)) (Q.dv 1)))
theorem sc_l_renewed : FnScope N_l_renewed ["_law_leases", "_law_store", "_law_turn"] (defScope s_l_renewed) := ⟨rfl, rfl, rfl, by decide +kernel, rfl, by decide +kernel, by decide +kernel⟩
set_option maxHeartbeats 0 in
theorem ok_l_renewed {f : Addr} {fd : FuncData} (E : Env K mg) (F : Fn K mg "_law_renewed" s_l_renewed ["_law_leases", "_law_store", "_law_turn"] f fd)
    {f_Leases_renew : Addr} {fd_Leases_renew : FuncData} (G_Leases_renew : Mf K C_Leases "renew" "Leases.renew" s_Leases_renew ["self", "store", "turn"] f_Leases_renew fd_Leases_renew) (O_Leases_renew : FnOk P w K mg base (CXE P w) 3 f_Leases_renew fd_Leases_renew ["self", "store", "turn"] (upSpX K sp_Leases_renew)) :
    FnOk P w K mg base CX0 4 f fd ["_law_leases", "_law_store", "_law_turn"] (upSp K sp_l_renewed) := by
  refine fun_ok (t := t_l_renewed sp_Leases_renew) F.fn sc_l_renewed len_l_renewed (fun cdv A outer s H E' hr => ?_) read_l_renewed
  refine Jd.h ?_
  exact Q.pssd_one (Q.psd_try rfl rfl (fun _ _ _ _ hE hP =>
      Q.pssd_one (Q.psd_ret (Q.pd_tup (Q.pac (Q.pd_str) (Q.pac (Q.pmX hE (Q.dv 0) E.k_Leases G_Leases_renew.me O_Leases_renew (hr.mono (by decide)) G_Leases_renew.bd (Q.pac (Q.dv 1) (Q.pac (Q.dv 2) (Q.pad_nil)))) (Q.pad_nil)))))) (Q.ph_as (i := 3) rfl E.m_Early (AllT.cons E.e_Early_Early (AllT.nil)) sc_l_renewed.nd rfl rfl rfl (fun _ =>
      Q.pssd_one (Q.psd_ret (Q.pd_tup (Q.pac (Q.pd_str) (Q.pac (Q.pd_xfld (AllC.cons ⟨E.x_Early, E.n_Early_until⟩ (AllC.nil)) (Q.dv 3)) (Q.pad_nil)))))) (Q.ph_none)))
theorem ndc_2 : (["store", "lease", "self"] : List Str).Nodup := by decide +kernel
theorem sc_Leases_all_leases : FnScope N_Leases_all_leases ["self"] (defScope s_Leases_all_leases) := ⟨rfl, rfl, rfl, by decide +kernel, rfl, by decide +kernel, by decide +kernel⟩
set_option maxHeartbeats 0 in
theorem ok_Leases_all_leases {f : Addr} {fd : FuncData} (E : Env K mg) (F : Mf K C_Leases "all_leases" "Leases.all_leases" s_Leases_all_leases ["self"] f fd) :
    FnOk P w K mg base CX0 1 f fd ["self"] (upSp K sp_Leases_all_leases) := by
  refine fun_ok (t := t_Leases_all_leases) F.fn sc_Leases_all_leases len_Leases_all_leases (fun cdv A outer s H E' hr => ?_) read_Leases_all_leases
  refine Jd.h ?_
  exact Q.pssd_one (Q.psd_ret (Q.pcB call_sortedT cd_sortT rfl E.b_sorted bb_sorted (Q.pac (Q.pd_still (Q.pd_lc rfl (lcOk (own := (["store", "lease"] : List Str)) (fr := [0]) rfl) (Q.pid_ditems (Q.pd_fld E.k_Leases E.n_Leases_last (Q.dv 0))) (fun _ _ _ _ _ _ => Q.pgd_tup rfl (Q.pgsd_cons (Q.pgd_name (i := 0) ndc_2 rfl (Or.inl rfl)) (Q.pgsd_cons (Q.pgd_name (i := 1) ndc_2 rfl (Or.inl rfl)) (Q.pgsd_nil)))) (fun _ _ _ _ _ _ => Q.ptsd_one (Q.ptd_not (Q.ptd_val (Q.pd_dget (hu_of hr) (Q.pd_fld E.k_Leases E.n_Leases_let (Q.dv 2)) (Q.dv 0))))) (fun _ _ _ _ _ _ => Q.dv 1))) (Q.pad_nil))))
theorem ndc_3 : (["_law_one", "_law_store"] : List Str).Nodup := by decide +kernel
theorem sc_l_gone : FnScope N_l_gone ["_law_leases", "_law_store", "_law_lease"] (defScope s_l_gone) := ⟨rfl, rfl, rfl, by decide +kernel, rfl, by decide +kernel, by decide +kernel⟩
set_option maxHeartbeats 0 in
theorem ok_l_gone {f : Addr} {fd : FuncData} (E : Env K mg) (F : Fn K mg "_law_gone" s_l_gone ["_law_leases", "_law_store", "_law_lease"] f fd)
    {f_l_renewed : Addr} {fd_l_renewed : FuncData} (G_l_renewed : Fn K mg "_law_renewed" s_l_renewed ["_law_leases", "_law_store", "_law_turn"] f_l_renewed fd_l_renewed) (O_l_renewed : FnOk P w K mg base CX0 4 f_l_renewed fd_l_renewed ["_law_leases", "_law_store", "_law_turn"] (upSp K sp_l_renewed))
    {f_Leases_all_leases : Addr} {fd_Leases_all_leases : FuncData} (G_Leases_all_leases : Mf K C_Leases "all_leases" "Leases.all_leases" s_Leases_all_leases ["self"] f_Leases_all_leases fd_Leases_all_leases) (O_Leases_all_leases : FnOk P w K mg base CX0 1 f_Leases_all_leases fd_Leases_all_leases ["self"] (upSp K sp_Leases_all_leases))
    {f_Leases_lease_of : Addr} {fd_Leases_lease_of : FuncData} (G_Leases_lease_of : Mf K C_Leases "lease_of" "Leases.lease_of" s_Leases_lease_of ["self", "store"] f_Leases_lease_of fd_Leases_lease_of) (O_Leases_lease_of : FnOk P w K mg base CX0 1 f_Leases_lease_of fd_Leases_lease_of ["self", "store"] (upSp K sp_Leases_lease_of))
    {f_Leases_token_of : Addr} {fd_Leases_token_of : FuncData} (G_Leases_token_of : Mf K C_Leases "token_of" "Leases.token_of" s_Leases_token_of ["self", "store"] f_Leases_token_of fd_Leases_token_of) (O_Leases_token_of : FnOk P w K mg base CX0 1 f_Leases_token_of fd_Leases_token_of ["self", "store"] (upSp K sp_Leases_token_of))
    {f_Leases_let_go : Addr} {fd_Leases_let_go : FuncData} (G_Leases_let_go : Mf K C_Leases "let_go" "Leases.let_go" s_Leases_let_go ["self", "store"] f_Leases_let_go fd_Leases_let_go) (O_Leases_let_go : FnOk P w K mg base CX0 2 f_Leases_let_go fd_Leases_let_go ["self", "store"] (upSp K sp_Leases_let_go)) :
    FnOk P w K mg base CX0 5 f fd ["_law_leases", "_law_store", "_law_lease"] (upSp K sp_l_gone) := by
  refine fun_ok (t := t_l_gone sp_l_renewed sp_Leases_all_leases sp_Leases_lease_of sp_Leases_token_of sp_Leases_let_go) F.fn sc_l_gone len_l_gone (fun cdv A outer s H E' hr => ?_) read_l_gone
  refine Jd.h ?_
  exact Q.pssd_cons (Q.psd_for PassesOwn.never rfl (Q.pid_items (Q.pd_lst (Q.pac (Q.pd_non) (Q.pac (Q.pd_int) (Q.pac (Q.pd_op op_sub opd_sub (Q.pd_ix ix_seq opd_ix (Q.dv 2) (Q.pd_int)) (Q.pd_int)) (Q.pac (Q.pd_ix ix_seq opd_ix (Q.dv 2) (Q.pd_int)) (Q.pac (Q.pd_op op_add2 opd_add2 (Q.pd_ix ix_seq opd_ix (Q.dv 2) (Q.pd_int)) (Q.pd_int)) (Q.pad_nil)))))))) (Q.pgd_name (i := 3) sc_l_gone.nd rfl (Or.inl rfl))
      (Q.pssd_cons (Q.psd_if (Q.ptd_w (Q.pwd_and (Q.ptd_cmp op_notN opd_notN (Q.dv 3) (Q.pd_non)) (Q.pwd_and1 (Q.ptd_cmp (op_neT hr) opd_neT (Q.pcF O_l_renewed (hr.mono (by decide)) rfl G_l_renewed.mg G_l_renewed.fn.kp G_l_renewed.bd (Q.pac (Q.dv 0) (Q.pac (Q.dv 1) (Q.pac (Q.dv 3) (Q.pad_nil))))) (Q.pd_tup (Q.pac (Q.pd_str) (Q.pac (Q.pd_ix ix_seq opd_ix (Q.dv 2) (Q.pd_int)) (Q.pad_nil))))))))
        (Q.pssd_one (Q.psd_ret (Q.pd_bl)))
        (Q.pssd_nil)) <|
      Q.pssd_cons (Q.psd_setLC (i := 4) sc_l_gone.nd rfl (Or.inl rfl) rfl (lcOk (own := (["_law_one"] : List Str)) (fr := [1]) rfl) (Q.pid_items (Q.pd_seal (Q.pd_meth0 (Q.dv 0) E.k_Leases G_Leases_all_leases.me O_Leases_all_leases (hr.mono (by decide)) G_Leases_all_leases.bd))) (fun _ _ _ _ _ _ => Q.pgd_name (i := 0) ndc_3 rfl (Or.inl rfl)) (fun _ _ _ _ _ _ => Q.ptsd_one (Q.ptd_cmp (op_eqT hr) opd_eqT (Q.pd_ix ix_seq opd_ix (Q.dv 0) (Q.pd_int)) (Q.dv 1))) (fun _ _ _ _ _ _ => Q.dv 0)) <|
      Q.pssd_one (Q.psd_if (Q.ptd_w (Q.pwd_or (Q.ptd_cmp (op_neT hr) opd_neT (Q.dv 4) (Q.pd_lst (Q.pad_nil))) (Q.pwd_or (Q.ptd_cmp op_notN opd_notN (Q.pd_meth (Q.dv 0) E.k_Leases G_Leases_lease_of.me O_Leases_lease_of (hr.mono (by decide)) G_Leases_lease_of.bd (Q.pac (Q.dv 1) (Q.pad_nil))) (Q.pd_non)) (Q.pwd_or1 (Q.ptd_cmp (op_neT hr) opd_neT (Q.pd_meth (Q.dv 0) E.k_Leases G_Leases_token_of.me O_Leases_token_of (hr.mono (by decide)) G_Leases_token_of.bd (Q.pac (Q.dv 1) (Q.pad_nil))) (Q.pd_ix ix_seq opd_ix (Q.dv 2) (Q.pd_int)))))))
        (Q.pssd_one (Q.psd_ret (Q.pd_bl)))
        (Q.pssd_nil)))) <|
    Q.pssd_one (Q.psd_ret (Q.pd_cmp op_isB opd_isB (Q.pd_meth (Q.dv 0) E.k_Leases G_Leases_let_go.me O_Leases_let_go (hr.mono (by decide)) G_Leases_let_go.bd (Q.pac (Q.dv 1) (Q.pad_nil))) (Q.pd_bl)))
theorem ndc_4 : (["_law_one", "_law_lasting", "_law_store"] : List Str).Nodup := by decide +kernel
theorem ndc_5 : (["_law_one", "_law_lasting"] : List Str).Nodup := by decide +kernel
theorem sc_law : FnScope N_law ["_law_script"] (defScope s_law) := ⟨rfl, rfl, rfl, by decide +kernel, rfl, by decide +kernel, by decide +kernel⟩
set_option maxHeartbeats 0 in
theorem ok_law {f : Addr} {fd : FuncData} (E : Env K mg) (F : Fn K mg "law" s_law ["_law_script"] f fd)
    {f_l_bag : Addr} {fd_l_bag : FuncData} (G_l_bag : Fn K mg "_law_bag" s_l_bag ["_law_script"] f_l_bag fd_l_bag) (O_l_bag : FnOk P w K mg base CX0 1 f_l_bag fd_l_bag ["_law_script"] (upSp K sp_l_bag))
    {f_l_stores : Addr} {fd_l_stores : FuncData} (G_l_stores : Fn K mg "_law_stores" s_l_stores ["_law_bag_here"] f_l_stores fd_l_stores) (O_l_stores : FnOk P w K mg base CX0 3 f_l_stores fd_l_stores ["_law_bag_here"] (upSp K sp_l_stores))
    {f_Leases_init : Addr} {fd_Leases_init : FuncData} (G_Leases_init : Mi K C_Leases "Leases.__init__" s_Leases_init ["self"] f_Leases_init fd_Leases_init) (O_Leases_init : FnOk P w K mg base CX0 1 f_Leases_init fd_Leases_init ["self"] (upSp K sp_Leases_init))
    {f_Leases_let_go : Addr} {fd_Leases_let_go : FuncData} (G_Leases_let_go : Mf K C_Leases "let_go" "Leases.let_go" s_Leases_let_go ["self", "store"] f_Leases_let_go fd_Leases_let_go) (O_Leases_let_go : FnOk P w K mg base CX0 2 f_Leases_let_go fd_Leases_let_go ["self", "store"] (upSp K sp_Leases_let_go))
    {f_Leases_give : Addr} {fd_Leases_give : FuncData} (G_Leases_give : Mf K C_Leases "give" "Leases.give" s_Leases_give ["self", "store", "number", "turn"] f_Leases_give fd_Leases_give) (O_Leases_give : FnOk P w K mg base (CXE P w) 3 f_Leases_give fd_Leases_give ["self", "store", "number", "turn"] (upSpX K sp_Leases_give))
    {f_l_take : Addr} {fd_l_take : FuncData} (G_l_take : Fn K mg "_law_take" s_l_take ["_law_bag_here", "_law_many"] f_l_take fd_l_take) (O_l_take : FnOk P w K mg base CX0 1 f_l_take fd_l_take ["_law_bag_here", "_law_many"] (upSp K sp_l_take))
    {f_l_gone : Addr} {fd_l_gone : FuncData} (G_l_gone : Fn K mg "_law_gone" s_l_gone ["_law_leases", "_law_store", "_law_lease"] f_l_gone fd_l_gone) (O_l_gone : FnOk P w K mg base CX0 5 f_l_gone fd_l_gone ["_law_leases", "_law_store", "_law_lease"] (upSp K sp_l_gone))
    {f_Leases_all_leases : Addr} {fd_Leases_all_leases : FuncData} (G_Leases_all_leases : Mf K C_Leases "all_leases" "Leases.all_leases" s_Leases_all_leases ["self"] f_Leases_all_leases fd_Leases_all_leases) (O_Leases_all_leases : FnOk P w K mg base CX0 1 f_Leases_all_leases fd_Leases_all_leases ["self"] (upSp K sp_Leases_all_leases))
    {f_Leases_renew : Addr} {fd_Leases_renew : FuncData} (G_Leases_renew : Mf K C_Leases "renew" "Leases.renew" s_Leases_renew ["self", "store", "turn"] f_Leases_renew fd_Leases_renew) (O_Leases_renew : FnOk P w K mg base (CXE P w) 3 f_Leases_renew fd_Leases_renew ["self", "store", "turn"] (upSpX K sp_Leases_renew)) :
    FnOk P w K mg base CX0 6 f fd ["_law_script"] (upSp K sp_law) := by
  refine fun_ok (t := t_law sp_l_bag sp_l_stores sp_Leases_init sp_Leases_let_go sp_Leases_give sp_l_take sp_l_gone sp_Leases_all_leases sp_Leases_renew) F.fn sc_law len_law (fun cdv A outer s H E' hr => ?_) read_law
  refine Jd.h ?_
  exact Q.pssd_cons (Q.psd_set (i := 1) sc_law.nd rfl (Or.inl rfl) (Q.pcF O_l_bag (hr.mono (by decide)) rfl G_l_bag.mg G_l_bag.fn.kp G_l_bag.bd (Q.pac (Q.dv 0) (Q.pad_nil)))) <|
    Q.pssd_cons (Q.psd_set (i := 2) sc_law.nd rfl (Or.inl rfl) (Q.pcF O_l_stores (hr.mono (by decide)) rfl G_l_stores.mg G_l_stores.fn.kp G_l_stores.bd (Q.pac (Q.dv 1) (Q.pad_nil)))) <|
    Q.pssd_cons (Q.psd_set (i := 3) sc_law.nd rfl (Or.inl rfl) (Q.pd_make0 G_Leases_init.mi O_Leases_init (hr.mono (by decide)) rfl E.m_Leases G_Leases_init.bd)) <|
    Q.pssd_cons (Q.psd_for PassesOwn.never rfl (Q.pid_items (Q.dv 2)) (Q.pgd_name (i := 4) sc_law.nd rfl (Or.inr rfl))
      (Q.pssd_one (Q.psd_if (Q.ptd_cmp op_notB opd_isB (Q.pd_meth (Q.dv 3) E.k_Leases G_Leases_let_go.me O_Leases_let_go (hr.mono (by decide)) G_Leases_let_go.bd (Q.pac (Q.dv 4) (Q.pad_nil))) (Q.pd_bl))
        (Q.pssd_one (Q.psd_ret (Q.pd_bl)))
        (Q.pssd_nil)))) <|
    Q.pssd_cons (Q.psd_set (i := 5) sc_law.nd rfl (Or.inr rfl) (Q.pd_newDic)) <|
    Q.pssd_cons (Q.psd_for PassesOwn.never rfl (Q.pid_items (Q.dv 2)) (Q.pgd_name (i := 4) sc_law.nd rfl (Or.inr rfl))
      (Q.pssd_one (Q.psd_dput (hu_of hr) (Q.dv 5) (Q.dv 4) (Q.pmX lk_never (Q.dv 3) E.k_Leases G_Leases_give.me O_Leases_give (hr.mono (by decide)) G_Leases_give.bd (Q.pac (Q.dv 4) (Q.pac (Q.pd_op op_add2 opd_add2 (Q.pd_int) (Q.pcF O_l_take (hr.mono (by decide)) rfl G_l_take.mg G_l_take.fn.kp G_l_take.bd (Q.pac (Q.dv 1) (Q.pac (Q.pd_int) (Q.pad_nil))))) (Q.pac (Q.pcF O_l_take (hr.mono (by decide)) rfl G_l_take.mg G_l_take.fn.kp G_l_take.bd (Q.pac (Q.dv 1) (Q.pac (Q.pd_int) (Q.pad_nil)))) (Q.pad_nil)))))))) <|
    Q.pssd_cons (Q.psd_for PassesOwn.never rfl (Q.pid_range1 rfl E.b_range (Q.pac (Q.pd_op op_add2 opd_add2 (Q.pd_int) (Q.pcF O_l_take (hr.mono (by decide)) rfl G_l_take.mg G_l_take.fn.kp G_l_take.bd (Q.pac (Q.dv 1) (Q.pac (Q.pd_int) (Q.pad_nil))))) (Q.pad_nil))) (Q.pgd_name (i := 6) sc_law.nd rfl (Or.inl rfl))
      (Q.pssd_cons (Q.psd_set (i := 4) sc_law.nd rfl (Or.inr rfl) (Q.pd_ix ix_seq opd_ix (Q.dv 2) (Q.pcF O_l_take (hr.mono (by decide)) rfl G_l_take.mg G_l_take.fn.kp G_l_take.bd (Q.pac (Q.dv 1) (Q.pac (Q.pcB call_len cd_len rfl E.b_len bb_len (Q.pac (Q.dv 2) (Q.pad_nil))) (Q.pad_nil)))))) <|
      Q.pssd_cons (Q.psd_set (i := 7) sc_law.nd rfl (Or.inl rfl) (Q.pd_dget (hu_of hr) (Q.dv 5) (Q.dv 4))) <|
      Q.pssd_cons (Q.psd_setLC (i := 8) sc_law.nd rfl (Or.inl rfl) rfl (lcOk (own := (["_law_one"] : List Str)) (fr := [5, 4]) rfl) (Q.pid_items (Q.pd_seal (Q.pcB (call_sortedD rfl) cd_sortD rfl E.b_sorted bb_sorted (Q.pac (Q.dv 5) (Q.pad_nil))))) (fun _ _ _ _ _ _ => Q.pgd_name (i := 0) ndc_4 rfl (Or.inl rfl)) (fun _ _ _ _ _ _ => Q.ptsd_one (Q.ptd_cmp (op_neT hr) opd_neT (Q.dv 0) (Q.dv 2))) (fun _ _ _ _ _ _ => Q.pd_dget (hu_of hr) (Q.dv 1) (Q.dv 0))) <|
      Q.pssd_cons (Q.psd_if (Q.ptd_w (Q.pwd_or (Q.ptd_cmp op_notB opd_isB (Q.pd_meth (Q.dv 3) E.k_Leases G_Leases_let_go.me O_Leases_let_go (hr.mono (by decide)) G_Leases_let_go.bd (Q.pac (Q.dv 4) (Q.pad_nil))) (Q.pd_bl)) (Q.pwd_or1 (Q.ptd_not (Q.ptd_val (Q.pcF O_l_gone (hr.mono (by decide)) rfl G_l_gone.mg G_l_gone.fn.kp G_l_gone.bd (Q.pac (Q.dv 3) (Q.pac (Q.dv 4) (Q.pac (Q.dv 7) (Q.pad_nil))))))))))
        (Q.pssd_one (Q.psd_ret (Q.pd_bl)))
        (Q.pssd_nil)) <|
      Q.pssd_cons (Q.psd_if (Q.ptd_cmp (op_neT hr) opd_neT (Q.pd_meth0 (Q.dv 3) E.k_Leases G_Leases_all_leases.me O_Leases_all_leases (hr.mono (by decide)) G_Leases_all_leases.bd) (Q.dv 8))
        (Q.pssd_one (Q.psd_ret (Q.pd_bl)))
        (Q.pssd_nil)) <|
      Q.pssd_cons (Q.psd_set (i := 9) sc_law.nd rfl (Or.inl rfl) (Q.pcB (call_max2 rfl) cd_max2 rfl E.b_max bb_max (Q.pac (Q.pd_int) (Q.pac (Q.pd_op op_add2 opd_add2 (Q.pd_op op_sub opd_sub (Q.pd_ix ix_seq opd_ix (Q.dv 7) (Q.pd_int)) (Q.pd_int)) (Q.pcF O_l_take (hr.mono (by decide)) rfl G_l_take.mg G_l_take.fn.kp G_l_take.bd (Q.pac (Q.dv 1) (Q.pac (Q.pd_int) (Q.pad_nil))))) (Q.pad_nil))))) <|
      Q.pssd_cons (Q.psd_set (i := 10) sc_law.nd rfl (Or.inl rfl) (Q.pd_ix ix_seq opd_ix (Q.pd_lst (Q.pac (Q.pd_ix ix_seq opd_ix (Q.dv 7) (Q.pd_int)) (Q.pac (Q.pd_op op_add2 opd_add2 (Q.pd_int) (Q.pcF O_l_take (hr.mono (by decide)) rfl G_l_take.mg G_l_take.fn.kp G_l_take.bd (Q.pac (Q.dv 1) (Q.pac (Q.pd_int) (Q.pad_nil))))) (Q.pad_nil)))) (Q.pcF O_l_take (hr.mono (by decide)) rfl G_l_take.mg G_l_take.fn.kp G_l_take.bd (Q.pac (Q.dv 1) (Q.pac (Q.pd_int) (Q.pad_nil)))))) <|
      Q.pssd_cons (Q.psd_dput (hu_of hr) (Q.dv 5) (Q.dv 4) (Q.pmX lk_never (Q.dv 3) E.k_Leases G_Leases_give.me O_Leases_give (hr.mono (by decide)) G_Leases_give.bd (Q.pac (Q.dv 4) (Q.pac (Q.dv 10) (Q.pac (Q.dv 9) (Q.pad_nil)))))) <|
      Q.pssd_cons (Q.psd_if (Q.ptd_cmp (op_neT hr) opd_neT (Q.pd_dget (hu_of hr) (Q.dv 5) (Q.dv 4)) (Q.pd_tup (Q.pac (Q.dv 4) (Q.pac (Q.pd_op op_add2 opd_add2 (Q.pd_ix ix_seq opd_ix (Q.dv 7) (Q.pd_int)) (Q.pd_int)) (Q.pac (Q.dv 10) (Q.pac (Q.pd_op op_add2 opd_add2 (Q.dv 9) (Q.pd_int)) (Q.pad_nil)))))))
        (Q.pssd_one (Q.psd_ret (Q.pd_bl)))
        (Q.pssd_nil)) <|
      Q.pssd_one (Q.psd_if (Q.ptd_cmp (op_eqT hr) opd_eqT (Q.pcF O_l_take (hr.mono (by decide)) rfl G_l_take.mg G_l_take.fn.kp G_l_take.bd (Q.pac (Q.dv 1) (Q.pac (Q.pd_int) (Q.pad_nil)))) (Q.pd_int))
        (Q.pssd_cons (Q.psd_set (i := 11) sc_law.nd rfl (Or.inl rfl) (Q.pd_op op_add2 opd_add2 (Q.dv 9) (Q.pcF O_l_take (hr.mono (by decide)) rfl G_l_take.mg G_l_take.fn.kp G_l_take.bd (Q.pac (Q.dv 1) (Q.pac (Q.pd_int) (Q.pad_nil)))))) <|
        Q.pssd_cons (Q.psd_dput (hu_of hr) (Q.dv 5) (Q.dv 4) (Q.pmX lk_never (Q.dv 3) E.k_Leases G_Leases_renew.me O_Leases_renew (hr.mono (by decide)) G_Leases_renew.bd (Q.pac (Q.dv 4) (Q.pac (Q.dv 11) (Q.pad_nil))))) <|
        Q.pssd_one (Q.psd_if (Q.ptd_cmp (op_neT hr) opd_neT (Q.pd_dget (hu_of hr) (Q.dv 5) (Q.dv 4)) (Q.pd_tup (Q.pac (Q.dv 4) (Q.pac (Q.pd_op op_add2 opd_add2 (Q.pd_ix ix_seq opd_ix (Q.dv 7) (Q.pd_int)) (Q.pd_int)) (Q.pac (Q.dv 10) (Q.pac (Q.pd_op op_add2 opd_add2 (Q.dv 11) (Q.pd_int)) (Q.pad_nil)))))))
          (Q.pssd_one (Q.psd_ret (Q.pd_bl)))
          (Q.pssd_nil)))
        (Q.pssd_nil)))) <|
    Q.pssd_one (Q.psd_ret (Q.pd_cmp (op_eqT hr) opd_eqT (Q.pd_meth0 (Q.dv 3) E.k_Leases G_Leases_all_leases.me O_Leases_all_leases (hr.mono (by decide)) G_Leases_all_leases.bd) (Q.pd_lc rfl (lcOk (own := (["_law_one"] : List Str)) (fr := [5]) rfl) (Q.pid_items (Q.pd_seal (Q.pcB (call_sortedD rfl) cd_sortD rfl E.b_sorted bb_sorted (Q.pac (Q.dv 5) (Q.pad_nil))))) (fun _ _ _ _ _ _ => Q.pgd_name (i := 0) ndc_5 rfl (Or.inl rfl)) (fun _ _ _ _ _ _ => Q.ptsd_nil) (fun _ _ _ _ _ _ => Q.pd_dget (hu_of hr) (Q.dv 1) (Q.dv 0)))))
theorem all_mk {l : PySem.W.OpenLaw} {w : World} {K : PySem.W.Frag} {h : Heap} {mg : Str → Option Value} {fa : Addr} (X : K.In h) (G : h.Ns mainGlobals mg) (hfa : mg "law" = some (.ref fa))
    {f_l_bag : Addr} {oc_l_bag kV_l_bag dc_l_bag pm_l_bag cd_l_bag ct_l_bag : Value} {od_l_bag an_l_bag : Option Addr} {sl_l_bag : Array (Option Value)}
    (a_l_bag : PySem.W.nsIn K mainGlobals "_law_bag" = some (some (.ref f_l_bag))) (l_l_bag : K.lookup f_l_bag = some ⟨oc_l_bag, od_l_bag, .func (PySem.W.fnOf "_law_bag" "_law_bag" (defArgs s_l_bag) (defBody s_l_bag) (defScope s_l_bag) .none kV_l_bag dc_l_bag pm_l_bag an_l_bag cd_l_bag ct_l_bag), sl_l_bag⟩) (c_l_bag : PySem.W.codeIn K cd_l_bag "_law_bag" = true) (k_l_bag : PySem.W.keepIn K (.ref f_l_bag) = true)
    {f_l_take : Addr} {oc_l_take kV_l_take dc_l_take pm_l_take cd_l_take ct_l_take : Value} {od_l_take an_l_take : Option Addr} {sl_l_take : Array (Option Value)}
    (a_l_take : PySem.W.nsIn K mainGlobals "_law_take" = some (some (.ref f_l_take))) (l_l_take : K.lookup f_l_take = some ⟨oc_l_take, od_l_take, .func (PySem.W.fnOf "_law_take" "_law_take" (defArgs s_l_take) (defBody s_l_take) (defScope s_l_take) .none kV_l_take dc_l_take pm_l_take an_l_take cd_l_take ct_l_take), sl_l_take⟩) (c_l_take : PySem.W.codeIn K cd_l_take "_law_take" = true) (k_l_take : PySem.W.keepIn K (.ref f_l_take) = true)
    {f_l_word : Addr} {oc_l_word kV_l_word dc_l_word pm_l_word cd_l_word ct_l_word : Value} {od_l_word an_l_word : Option Addr} {sl_l_word : Array (Option Value)}
    (a_l_word : PySem.W.nsIn K mainGlobals "_law_word" = some (some (.ref f_l_word))) (l_l_word : K.lookup f_l_word = some ⟨oc_l_word, od_l_word, .func (PySem.W.fnOf "_law_word" "_law_word" (defArgs s_l_word) (defBody s_l_word) (defScope s_l_word) .none kV_l_word dc_l_word pm_l_word an_l_word cd_l_word ct_l_word), sl_l_word⟩) (c_l_word : PySem.W.codeIn K cd_l_word "_law_word" = true) (k_l_word : PySem.W.keepIn K (.ref f_l_word) = true)
    {f_l_stores : Addr} {oc_l_stores kV_l_stores dc_l_stores pm_l_stores cd_l_stores ct_l_stores : Value} {od_l_stores an_l_stores : Option Addr} {sl_l_stores : Array (Option Value)}
    (a_l_stores : PySem.W.nsIn K mainGlobals "_law_stores" = some (some (.ref f_l_stores))) (l_l_stores : K.lookup f_l_stores = some ⟨oc_l_stores, od_l_stores, .func (PySem.W.fnOf "_law_stores" "_law_stores" (defArgs s_l_stores) (defBody s_l_stores) (defScope s_l_stores) .none kV_l_stores dc_l_stores pm_l_stores an_l_stores cd_l_stores ct_l_stores), sl_l_stores⟩) (c_l_stores : PySem.W.codeIn K cd_l_stores "_law_stores" = true) (k_l_stores : PySem.W.keepIn K (.ref f_l_stores) = true)
    {f_Leases_init : Addr} {oc_Leases_init kV_Leases_init dc_Leases_init pm_Leases_init cd_Leases_init ct_Leases_init : Value} {od_Leases_init an_Leases_init : Option Addr} {sl_Leases_init : Array (Option Value)}
    (a_Leases_init : PySem.W.findIn K (.ref C_Leases) "__init__" = some (some (.ref f_Leases_init))) (i_Leases_init : PySem.W.isFn K (.ref f_Leases_init) = true) (l_Leases_init : K.lookup f_Leases_init = some ⟨oc_Leases_init, od_Leases_init, .func (PySem.W.fnOf "__init__" "Leases.__init__" (defArgs s_Leases_init) (defBody s_Leases_init) (defScope s_Leases_init) .none kV_Leases_init dc_Leases_init pm_Leases_init an_Leases_init cd_Leases_init ct_Leases_init), sl_Leases_init⟩) (c_Leases_init : PySem.W.codeIn K cd_Leases_init "Leases.__init__" = true) (k_Leases_init : PySem.W.keepIn K (.ref f_Leases_init) = true)
    {f_Leases_lease_of : Addr} {oc_Leases_lease_of kV_Leases_lease_of dc_Leases_lease_of pm_Leases_lease_of cd_Leases_lease_of ct_Leases_lease_of : Value} {od_Leases_lease_of an_Leases_lease_of : Option Addr} {sl_Leases_lease_of : Array (Option Value)}
    (a_Leases_lease_of : PySem.W.findIn K (.ref C_Leases) "lease_of" = some (some (.ref f_Leases_lease_of))) (i_Leases_lease_of : PySem.W.isFn K (.ref f_Leases_lease_of) = true) (l_Leases_lease_of : K.lookup f_Leases_lease_of = some ⟨oc_Leases_lease_of, od_Leases_lease_of, .func (PySem.W.fnOf "lease_of" "Leases.lease_of" (defArgs s_Leases_lease_of) (defBody s_Leases_lease_of) (defScope s_Leases_lease_of) .none kV_Leases_lease_of dc_Leases_lease_of pm_Leases_lease_of an_Leases_lease_of cd_Leases_lease_of ct_Leases_lease_of), sl_Leases_lease_of⟩) (c_Leases_lease_of : PySem.W.codeIn K cd_Leases_lease_of "Leases.lease_of" = true) (k_Leases_lease_of : PySem.W.keepIn K (.ref f_Leases_lease_of) = true)
    {f_Leases_let_go : Addr} {oc_Leases_let_go kV_Leases_let_go dc_Leases_let_go pm_Leases_let_go cd_Leases_let_go ct_Leases_let_go : Value} {od_Leases_let_go an_Leases_let_go : Option Addr} {sl_Leases_let_go : Array (Option Value)}
    (a_Leases_let_go : PySem.W.findIn K (.ref C_Leases) "let_go" = some (some (.ref f_Leases_let_go))) (i_Leases_let_go : PySem.W.isFn K (.ref f_Leases_let_go) = true) (l_Leases_let_go : K.lookup f_Leases_let_go = some ⟨oc_Leases_let_go, od_Leases_let_go, .func (PySem.W.fnOf "let_go" "Leases.let_go" (defArgs s_Leases_let_go) (defBody s_Leases_let_go) (defScope s_Leases_let_go) .none kV_Leases_let_go dc_Leases_let_go pm_Leases_let_go an_Leases_let_go cd_Leases_let_go ct_Leases_let_go), sl_Leases_let_go⟩) (c_Leases_let_go : PySem.W.codeIn K cd_Leases_let_go "Leases.let_go" = true) (k_Leases_let_go : PySem.W.keepIn K (.ref f_Leases_let_go) = true)
    {f_Early_init : Addr} {oc_Early_init kV_Early_init dc_Early_init pm_Early_init cd_Early_init ct_Early_init : Value} {od_Early_init an_Early_init : Option Addr} {sl_Early_init : Array (Option Value)}
    (a_Early_init : PySem.W.findIn K (.ref C_Early) "__init__" = some (some (.ref f_Early_init))) (i_Early_init : PySem.W.typeIn K (.ref f_Early_init) = some (.type "function")) (l_Early_init : K.lookup f_Early_init = some ⟨oc_Early_init, od_Early_init, .func (PySem.W.fnOf "__init__" "Early.__init__" (defArgs s_Early_init) (defBody s_Early_init) (defScope s_Early_init) .none kV_Early_init dc_Early_init pm_Early_init an_Early_init cd_Early_init ct_Early_init), sl_Early_init⟩) (c_Early_init : PySem.W.codeIn K cd_Early_init "Early.__init__" = true) (k_Early_init : PySem.W.keepIn K (.ref f_Early_init) = true)
    (xm_Early_init : XO.xmk K C_Early = true) (xt_Early_init : PySem.W.typeIn K (.ref C_Early) = some (.type "type")) (xk_Early_init : PySem.W.keepIn K (.ref C_Early) = true)
    {f_Leases_token_of : Addr} {oc_Leases_token_of kV_Leases_token_of dc_Leases_token_of pm_Leases_token_of cd_Leases_token_of ct_Leases_token_of : Value} {od_Leases_token_of an_Leases_token_of : Option Addr} {sl_Leases_token_of : Array (Option Value)}
    (a_Leases_token_of : PySem.W.findIn K (.ref C_Leases) "token_of" = some (some (.ref f_Leases_token_of))) (i_Leases_token_of : PySem.W.isFn K (.ref f_Leases_token_of) = true) (l_Leases_token_of : K.lookup f_Leases_token_of = some ⟨oc_Leases_token_of, od_Leases_token_of, .func (PySem.W.fnOf "token_of" "Leases.token_of" (defArgs s_Leases_token_of) (defBody s_Leases_token_of) (defScope s_Leases_token_of) .none kV_Leases_token_of dc_Leases_token_of pm_Leases_token_of an_Leases_token_of cd_Leases_token_of ct_Leases_token_of), sl_Leases_token_of⟩) (c_Leases_token_of : PySem.W.codeIn K cd_Leases_token_of "Leases.token_of" = true) (k_Leases_token_of : PySem.W.keepIn K (.ref f_Leases_token_of) = true)
    {f_Leases_give : Addr} {oc_Leases_give kV_Leases_give dc_Leases_give pm_Leases_give cd_Leases_give ct_Leases_give : Value} {od_Leases_give an_Leases_give : Option Addr} {sl_Leases_give : Array (Option Value)}
    (a_Leases_give : PySem.W.findIn K (.ref C_Leases) "give" = some (some (.ref f_Leases_give))) (i_Leases_give : PySem.W.isFn K (.ref f_Leases_give) = true) (l_Leases_give : K.lookup f_Leases_give = some ⟨oc_Leases_give, od_Leases_give, .func (PySem.W.fnOf "give" "Leases.give" (defArgs s_Leases_give) (defBody s_Leases_give) (defScope s_Leases_give) .none kV_Leases_give dc_Leases_give pm_Leases_give an_Leases_give cd_Leases_give ct_Leases_give), sl_Leases_give⟩) (c_Leases_give : PySem.W.codeIn K cd_Leases_give "Leases.give" = true) (k_Leases_give : PySem.W.keepIn K (.ref f_Leases_give) = true)
    {f_Leases_until_of : Addr} {oc_Leases_until_of kV_Leases_until_of dc_Leases_until_of pm_Leases_until_of cd_Leases_until_of ct_Leases_until_of : Value} {od_Leases_until_of an_Leases_until_of : Option Addr} {sl_Leases_until_of : Array (Option Value)}
    (a_Leases_until_of : PySem.W.findIn K (.ref C_Leases) "until_of" = some (some (.ref f_Leases_until_of))) (i_Leases_until_of : PySem.W.isFn K (.ref f_Leases_until_of) = true) (l_Leases_until_of : K.lookup f_Leases_until_of = some ⟨oc_Leases_until_of, od_Leases_until_of, .func (PySem.W.fnOf "until_of" "Leases.until_of" (defArgs s_Leases_until_of) (defBody s_Leases_until_of) (defScope s_Leases_until_of) .none kV_Leases_until_of dc_Leases_until_of pm_Leases_until_of an_Leases_until_of cd_Leases_until_of ct_Leases_until_of), sl_Leases_until_of⟩) (c_Leases_until_of : PySem.W.codeIn K cd_Leases_until_of "Leases.until_of" = true) (k_Leases_until_of : PySem.W.keepIn K (.ref f_Leases_until_of) = true)
    {f_Leases_renew : Addr} {oc_Leases_renew kV_Leases_renew dc_Leases_renew pm_Leases_renew cd_Leases_renew ct_Leases_renew : Value} {od_Leases_renew an_Leases_renew : Option Addr} {sl_Leases_renew : Array (Option Value)}
    (a_Leases_renew : PySem.W.findIn K (.ref C_Leases) "renew" = some (some (.ref f_Leases_renew))) (i_Leases_renew : PySem.W.isFn K (.ref f_Leases_renew) = true) (l_Leases_renew : K.lookup f_Leases_renew = some ⟨oc_Leases_renew, od_Leases_renew, .func (PySem.W.fnOf "renew" "Leases.renew" (defArgs s_Leases_renew) (defBody s_Leases_renew) (defScope s_Leases_renew) .none kV_Leases_renew dc_Leases_renew pm_Leases_renew an_Leases_renew cd_Leases_renew ct_Leases_renew), sl_Leases_renew⟩) (c_Leases_renew : PySem.W.codeIn K cd_Leases_renew "Leases.renew" = true) (k_Leases_renew : PySem.W.keepIn K (.ref f_Leases_renew) = true)
    {f_l_renewed : Addr} {oc_l_renewed kV_l_renewed dc_l_renewed pm_l_renewed cd_l_renewed ct_l_renewed : Value} {od_l_renewed an_l_renewed : Option Addr} {sl_l_renewed : Array (Option Value)}
    (a_l_renewed : PySem.W.nsIn K mainGlobals "_law_renewed" = some (some (.ref f_l_renewed))) (l_l_renewed : K.lookup f_l_renewed = some ⟨oc_l_renewed, od_l_renewed, .func (PySem.W.fnOf "_law_renewed" "_law_renewed" (defArgs s_l_renewed) (defBody s_l_renewed) (defScope s_l_renewed) .none kV_l_renewed dc_l_renewed pm_l_renewed an_l_renewed cd_l_renewed ct_l_renewed), sl_l_renewed⟩) (c_l_renewed : PySem.W.codeIn K cd_l_renewed "_law_renewed" = true) (k_l_renewed : PySem.W.keepIn K (.ref f_l_renewed) = true)
    {f_Leases_all_leases : Addr} {oc_Leases_all_leases kV_Leases_all_leases dc_Leases_all_leases pm_Leases_all_leases cd_Leases_all_leases ct_Leases_all_leases : Value} {od_Leases_all_leases an_Leases_all_leases : Option Addr} {sl_Leases_all_leases : Array (Option Value)}
    (a_Leases_all_leases : PySem.W.findIn K (.ref C_Leases) "all_leases" = some (some (.ref f_Leases_all_leases))) (i_Leases_all_leases : PySem.W.isFn K (.ref f_Leases_all_leases) = true) (l_Leases_all_leases : K.lookup f_Leases_all_leases = some ⟨oc_Leases_all_leases, od_Leases_all_leases, .func (PySem.W.fnOf "all_leases" "Leases.all_leases" (defArgs s_Leases_all_leases) (defBody s_Leases_all_leases) (defScope s_Leases_all_leases) .none kV_Leases_all_leases dc_Leases_all_leases pm_Leases_all_leases an_Leases_all_leases cd_Leases_all_leases ct_Leases_all_leases), sl_Leases_all_leases⟩) (c_Leases_all_leases : PySem.W.codeIn K cd_Leases_all_leases "Leases.all_leases" = true) (k_Leases_all_leases : PySem.W.keepIn K (.ref f_Leases_all_leases) = true)
    {f_l_gone : Addr} {oc_l_gone kV_l_gone dc_l_gone pm_l_gone cd_l_gone ct_l_gone : Value} {od_l_gone an_l_gone : Option Addr} {sl_l_gone : Array (Option Value)}
    (a_l_gone : PySem.W.nsIn K mainGlobals "_law_gone" = some (some (.ref f_l_gone))) (l_l_gone : K.lookup f_l_gone = some ⟨oc_l_gone, od_l_gone, .func (PySem.W.fnOf "_law_gone" "_law_gone" (defArgs s_l_gone) (defBody s_l_gone) (defScope s_l_gone) .none kV_l_gone dc_l_gone pm_l_gone an_l_gone cd_l_gone ct_l_gone), sl_l_gone⟩) (c_l_gone : PySem.W.codeIn K cd_l_gone "_law_gone" = true) (k_l_gone : PySem.W.keepIn K (.ref f_l_gone) = true)
    {f_law : Addr} {oc_law kV_law dc_law pm_law cd_law ct_law : Value} {od_law an_law : Option Addr} {sl_law : Array (Option Value)}
    (a_law : PySem.W.nsIn K mainGlobals "law" = some (some (.ref f_law))) (l_law : K.lookup f_law = some ⟨oc_law, od_law, .func (PySem.W.fnOf "law" "law" (defArgs s_law) (defBody s_law) (defScope s_law) .none kV_law dc_law pm_law an_law cd_law ct_law), sl_law⟩) (c_law : PySem.W.codeIn K cd_law "law" = true) (k_law : PySem.W.keepIn K (.ref f_law) = true)
    (aC_Leases : PySem.W.nsIn K mainGlobals "Leases" = some (some (.ref C_Leases))) (pg_Leases : PySem.W.plainGet K C_Leases Str.empty = true) (hd_Leases : PySem.W.hasDictIn K C_Leases = true) (po_Leases : PySem.W.plainOver K C_Leases = true) (sa_Leases : PySem.W.findIn K (.ref C_Leases) "__setattr__" = some (some (.builtin "object.__setattr__"))) (mk_Leases : PySem.W.makesIn K C_Leases = true) (kc_Leases : PySem.W.keepIn K (.ref C_Leases) = true)
    (xg_Early : PySem.W.nsIn K mainGlobals "Early" = some (some (.ref C_Early)))
    (xg1 : PySem.W.specialIn K (.builtin "object.__class__") "__get__" = some (some (.builtin "getset_descriptor.__get__"))) (xg2 : PySem.W.takesIn K (.builtin "object.__class__") = some true)
    (x1_Early : XO.xcls K C_Early = true) (x2_Early : PySem.W.findIn K (.ref C_Early) "__setattr__" = some (some (.builtin "object.__setattr__"))) (x3_Early : PySem.W.findIn K (.ref C_Early) "__getattribute__" = some (some (.builtin "BaseException.__getattribute__"))) (x4_Early : PySem.W.findIn K (.ref C_Early) "__getattr__" = some none) (x5_Early : PySem.W.findIn K (.ref C_Early) "__class__" = some (some (.builtin "object.__class__")))
    (xf_e_Early_Early : PySem.W.exmOne K (.ref C_Early) (.ref C_Early) = some true)
    (n_Early_until : PySem.W.findIn K (.ref C_Early) "until" = some none)
    (n_Leases_last : PySem.W.findIn K (.ref C_Leases) "last" = some none)
    (n_Leases_let : PySem.W.findIn K (.ref C_Leases) "let" = some none)
    (b_abs : PySem.W.nsIn K mainGlobals "abs" = some none)
    (b_int : PySem.W.nsIn K mainGlobals "int" = some none)
    (b_len : PySem.W.nsIn K mainGlobals "len" = some none)
    (b_max : PySem.W.nsIn K mainGlobals "max" = some none)
    (b_range : PySem.W.nsIn K mainGlobals "range" = some none)
    (b_sorted : PySem.W.nsIn K mainGlobals "sorted" = some none)
    {t_LEASE : Tok} (g_LEASE : PySem.W.nsIn K mainGlobals "LEASE" = some (some (.int 6 t_LEASE))) :
    ∃ fd : FuncData, (∀ (s : Shared) (v : Value), BindsTo s fd ⟨[v], []⟩ [("_law_script", v)]) ∧ ∀ base : Heap, K.In base → base.Ns mainGlobals mg → FnOk l.prog w K mg base CX0 6 fa fd ["_law_script"] (upSp K sp_law) := by
  have e := hfa.symm.trans (PySem.W.mg_of X G a_law)
  cases e
  have E : Env K mg := ⟨⟨pg_Leases, hd_Leases, po_Leases, sa_Leases⟩, PySem.W.mg_of X G aC_Leases, PySem.W.mg_of X G xg_Early, ⟨x1_Early, x2_Early, x3_Early, x4_Early, x5_Early, xg1, xg2⟩, xf_e_Early_Early, n_Early_until, n_Leases_last, n_Leases_let, PySem.W.mg_none_of X G b_abs, PySem.W.mg_none_of X G b_int, PySem.W.mg_none_of X G b_len, PySem.W.mg_none_of X G b_max, PySem.W.mg_none_of X G b_range, PySem.W.mg_none_of X G b_sorted, ⟨_, PySem.W.mg_of X G g_LEASE⟩⟩
  have G_l_bag : Fn K mg "_law_bag" s_l_bag ["_law_script"] _ _ := fn_mk X G a_l_bag l_l_bag c_l_bag k_l_bag (fun _ _ _ _ _ _ us hl => by obtain ⟨_, rfl⟩ := D.len_1 hl; rfl)
  have G_l_take : Fn K mg "_law_take" s_l_take ["_law_bag_here", "_law_many"] _ _ := fn_mk X G a_l_take l_l_take c_l_take k_l_take (fun _ _ _ _ _ _ us hl => by obtain ⟨_, _, rfl⟩ := D.len_2 hl; rfl)
  have G_l_word : Fn K mg "_law_word" s_l_word ["_law_bag_here"] _ _ := fn_mk X G a_l_word l_l_word c_l_word k_l_word (fun _ _ _ _ _ _ us hl => by obtain ⟨_, rfl⟩ := D.len_1 hl; rfl)
  have G_l_stores : Fn K mg "_law_stores" s_l_stores ["_law_bag_here"] _ _ := fn_mk X G a_l_stores l_l_stores c_l_stores k_l_stores (fun _ _ _ _ _ _ us hl => by obtain ⟨_, rfl⟩ := D.len_1 hl; rfl)
  have G_Leases_init : Mi K C_Leases "Leases.__init__" s_Leases_init ["self"] _ _ := mi_mk a_Leases_init i_Leases_init l_Leases_init c_Leases_init k_Leases_init mk_Leases kc_Leases (fun _ _ _ _ _ _ us hl => by obtain ⟨_, rfl⟩ := D.len_1 hl; rfl)
  have G_Leases_lease_of : Mf K C_Leases "lease_of" "Leases.lease_of" s_Leases_lease_of ["self", "store"] _ _ := mf_mk a_Leases_lease_of i_Leases_lease_of l_Leases_lease_of c_Leases_lease_of k_Leases_lease_of (fun _ _ _ _ _ _ us hl => by obtain ⟨_, _, rfl⟩ := D.len_2 hl; rfl)
  have G_Leases_let_go : Mf K C_Leases "let_go" "Leases.let_go" s_Leases_let_go ["self", "store"] _ _ := mf_mk a_Leases_let_go i_Leases_let_go l_Leases_let_go c_Leases_let_go k_Leases_let_go (fun _ _ _ _ _ _ us hl => by obtain ⟨_, _, rfl⟩ := D.len_2 hl; rfl)
  have G_Early_init : Xi K C_Early "Early.__init__" s_Early_init ["self", "until"] _ _ := xi_mk E.x_Early a_Early_init i_Early_init l_Early_init c_Early_init k_Early_init xm_Early_init xt_Early_init xk_Early_init (fun _ _ _ _ _ _ us hl => by obtain ⟨_, _, rfl⟩ := D.len_2 hl; rfl)
  have G_Leases_token_of : Mf K C_Leases "token_of" "Leases.token_of" s_Leases_token_of ["self", "store"] _ _ := mf_mk a_Leases_token_of i_Leases_token_of l_Leases_token_of c_Leases_token_of k_Leases_token_of (fun _ _ _ _ _ _ us hl => by obtain ⟨_, _, rfl⟩ := D.len_2 hl; rfl)
  have G_Leases_give : Mf K C_Leases "give" "Leases.give" s_Leases_give ["self", "store", "number", "turn"] _ _ := mf_mk a_Leases_give i_Leases_give l_Leases_give c_Leases_give k_Leases_give (fun _ _ _ _ _ _ us hl => by obtain ⟨_, _, _, _, rfl⟩ := D.len_4 hl; rfl)
  have G_Leases_until_of : Mf K C_Leases "until_of" "Leases.until_of" s_Leases_until_of ["self", "store"] _ _ := mf_mk a_Leases_until_of i_Leases_until_of l_Leases_until_of c_Leases_until_of k_Leases_until_of (fun _ _ _ _ _ _ us hl => by obtain ⟨_, _, rfl⟩ := D.len_2 hl; rfl)
  have G_Leases_renew : Mf K C_Leases "renew" "Leases.renew" s_Leases_renew ["self", "store", "turn"] _ _ := mf_mk a_Leases_renew i_Leases_renew l_Leases_renew c_Leases_renew k_Leases_renew (fun _ _ _ _ _ _ us hl => by obtain ⟨_, _, _, rfl⟩ := D.len_3 hl; rfl)
  have G_l_renewed : Fn K mg "_law_renewed" s_l_renewed ["_law_leases", "_law_store", "_law_turn"] _ _ := fn_mk X G a_l_renewed l_l_renewed c_l_renewed k_l_renewed (fun _ _ _ _ _ _ us hl => by obtain ⟨_, _, _, rfl⟩ := D.len_3 hl; rfl)
  have G_Leases_all_leases : Mf K C_Leases "all_leases" "Leases.all_leases" s_Leases_all_leases ["self"] _ _ := mf_mk a_Leases_all_leases i_Leases_all_leases l_Leases_all_leases c_Leases_all_leases k_Leases_all_leases (fun _ _ _ _ _ _ us hl => by obtain ⟨_, rfl⟩ := D.len_1 hl; rfl)
  have G_l_gone : Fn K mg "_law_gone" s_l_gone ["_law_leases", "_law_store", "_law_lease"] _ _ := fn_mk X G a_l_gone l_l_gone c_l_gone k_l_gone (fun _ _ _ _ _ _ us hl => by obtain ⟨_, _, _, rfl⟩ := D.len_3 hl; rfl)
  have G_law : Fn K mg "law" s_law ["_law_script"] _ _ := fn_mk X G a_law l_law c_law k_law (fun _ _ _ _ _ _ us hl => by obtain ⟨_, rfl⟩ := D.len_1 hl; rfl)
  refine ⟨PySem.W.fnOf "law" "law" (defArgs s_law) (defBody s_law) (defScope s_law) .none kV_law dc_law pm_law an_law cd_law ct_law, fun s v => .of_eq rfl, fun base _ _ => ?_⟩
  have O_l_bag := ok_l_bag (P := l.prog) (w := w) (base := base) E G_l_bag
  have O_l_take := ok_l_take (P := l.prog) (w := w) (base := base) E G_l_take
  have O_l_word := ok_l_word (P := l.prog) (w := w) (base := base) E G_l_word G_l_take O_l_take
  have O_l_stores := ok_l_stores (P := l.prog) (w := w) (base := base) E G_l_stores G_l_word O_l_word G_l_take O_l_take
  have O_Leases_init := ok_Leases_init (P := l.prog) (w := w) (base := base) E G_Leases_init
  have O_Leases_lease_of := ok_Leases_lease_of (P := l.prog) (w := w) (base := base) E G_Leases_lease_of
  have O_Leases_let_go := ok_Leases_let_go (P := l.prog) (w := w) (base := base) E G_Leases_let_go G_Leases_lease_of O_Leases_lease_of
  have O_Early_init := ok_Early_init (P := l.prog) (w := w) (base := base) E G_Early_init
  have O_Leases_token_of := ok_Leases_token_of (P := l.prog) (w := w) (base := base) E G_Leases_token_of
  have O_Leases_give := ok_Leases_give (P := l.prog) (w := w) (base := base) E G_Leases_give G_Leases_lease_of O_Leases_lease_of G_Early_init O_Early_init G_Leases_token_of O_Leases_token_of
  have O_Leases_until_of := ok_Leases_until_of (P := l.prog) (w := w) (base := base) E G_Leases_until_of
  have O_Leases_renew := ok_Leases_renew (P := l.prog) (w := w) (base := base) E G_Leases_renew G_Leases_lease_of O_Leases_lease_of G_Early_init O_Early_init G_Leases_until_of O_Leases_until_of
  have O_l_renewed := ok_l_renewed (P := l.prog) (w := w) (base := base) E G_l_renewed G_Leases_renew O_Leases_renew
  have O_Leases_all_leases := ok_Leases_all_leases (P := l.prog) (w := w) (base := base) E G_Leases_all_leases
  have O_l_gone := ok_l_gone (P := l.prog) (w := w) (base := base) E G_l_gone G_l_renewed O_l_renewed G_Leases_all_leases O_Leases_all_leases G_Leases_lease_of O_Leases_lease_of G_Leases_token_of O_Leases_token_of G_Leases_let_go O_Leases_let_go
  have O_law := ok_law (P := l.prog) (w := w) (base := base) E G_law G_l_bag O_l_bag G_l_stores O_l_stores G_Leases_init O_Leases_init G_Leases_let_go O_Leases_let_go G_Leases_give O_Leases_give G_l_take O_l_take G_l_gone O_l_gone G_Leases_all_leases O_Leases_all_leases G_Leases_renew O_Leases_renew
  exact O_law
end
theorem walk {l : PySem.W.OpenLaw} {q : Program} {loose : List Str} {XP : (Str → Option Value) → Heap → Prop} {YP : World → Heap → Prop} {d : DefRec} {K : Params → PySem.W.Frag} (hn : l.most = some 63) (hdf : d.params.defaults = [])
    (hY : ∀ (w : World) (h : Heap), YP w h → (K w.params).In h)
    (F : ∀ (w : World) (mg : Str → Option Value) (fa : Addr) (h : Heap), (K w.params).In h → h.Ns mainGlobals mg → mg d.name = some (.ref fa) →
      ∃ fd : FuncData, (∀ (s : Shared) (u : Value), BindsTo s fd ⟨[u], []⟩ [("_law_script", u)]) ∧ ∀ base : Heap, (K w.params).In base → base.Ns mainGlobals mg → FnOk l.prog w (K w.params) mg base CX0 6 fa fd ["_law_script"] (upSp (K w.params) sp_law)) :
    PySem.W.WalkO q loose XP YP l.row.toRowW d [] (fun f vs => PySem.call f vs) :=
  L2.walk_of (n := 63) (k := 6) (x := "_law_script") (CX := fun _ => CX0) (sp := fun w => upSp (K w.params) sp_law) hn (by decide) hdf ⟨rfl, rfl, by decide, by decide⟩ hY F (fun _ H a ns hl hO hS => D.law_start hl hO hS law_read) fun _ _ _ _ _ z => z
end K73
open PySem PySem.W PyProof.Rows
set_option maxRecDepth 100000 in
set_option maxHeartbeats 0 in
theorem PySem.Challenge.cw_placedworks_k73_let_go_holds : PySem.Challenge.rw_placedworks_k73_let_go.Holds := by
  w_on; o_law; k_head; (case hw => w_witness2)
  k_fill
  refine K73.walk (l := PySem.Challenge.rw_placedworks_k73_let_go) rfl rfl (fun w h Y => PySem.W.kIn_of Y) ?F
  case F =>
    intro w mg fa h KX G hmg
    refine' K73.all_mk KX G hmg ?a_l_bag ?l_l_bag ?c_l_bag ?k_l_bag ?a_l_take ?l_l_take ?c_l_take ?k_l_take ?a_l_word ?l_l_word ?c_l_word ?k_l_word ?a_l_stores ?l_l_stores ?c_l_stores ?k_l_stores ?a_Leases_init ?i_Leases_init ?l_Leases_init ?c_Leases_init ?k_Leases_init ?a_Leases_lease_of ?i_Leases_lease_of ?l_Leases_lease_of ?c_Leases_lease_of ?k_Leases_lease_of ?a_Leases_let_go ?i_Leases_let_go ?l_Leases_let_go ?c_Leases_let_go ?k_Leases_let_go ?a_Early_init ?i_Early_init ?l_Early_init ?c_Early_init ?k_Early_init ?xm_Early_init ?xt_Early_init ?xk_Early_init ?a_Leases_token_of ?i_Leases_token_of ?l_Leases_token_of ?c_Leases_token_of ?k_Leases_token_of ?a_Leases_give ?i_Leases_give ?l_Leases_give ?c_Leases_give ?k_Leases_give ?a_Leases_until_of ?i_Leases_until_of ?l_Leases_until_of ?c_Leases_until_of ?k_Leases_until_of ?a_Leases_renew ?i_Leases_renew ?l_Leases_renew ?c_Leases_renew ?k_Leases_renew ?a_l_renewed ?l_l_renewed ?c_l_renewed ?k_l_renewed ?a_Leases_all_leases ?i_Leases_all_leases ?l_Leases_all_leases ?c_Leases_all_leases ?k_Leases_all_leases ?a_l_gone ?l_l_gone ?c_l_gone ?k_l_gone ?a_law ?l_law ?c_law ?k_law ?aC_Leases ?pg_Leases ?hd_Leases ?po_Leases ?sa_Leases ?mk_Leases ?kc_Leases ?xg_Early ?xg1 ?xg2 ?x1_Early ?x2_Early ?x3_Early ?x4_Early ?x5_Early ?xf_e_Early_Early ?n_Early_until ?n_Leases_last ?n_Leases_let ?b_abs ?b_int ?b_len ?b_max ?b_range ?b_sorted ?g_LEASE
    (case a_l_bag => k_is)
    (case l_l_bag => k_is)
    (case c_l_bag => k_is)
    (case k_l_bag => k_is)
    (case a_l_take => k_is)
    (case l_l_take => k_is)
    (case c_l_take => k_is)
    (case k_l_take => k_is)
    (case a_l_word => k_is)
    (case l_l_word => k_is)
    (case c_l_word => k_is)
    (case k_l_word => k_is)
    (case a_l_stores => k_is)
    (case l_l_stores => k_is)
    (case c_l_stores => k_is)
    (case k_l_stores => k_is)
    (case a_Leases_init => k_is)
    (case i_Leases_init => k_is)
    (case l_Leases_init => k_is)
    (case c_Leases_init => k_is)
    (case k_Leases_init => k_is)
    (case a_Leases_lease_of => k_is)
    (case i_Leases_lease_of => k_is)
    (case l_Leases_lease_of => k_is)
    (case c_Leases_lease_of => k_is)
    (case k_Leases_lease_of => k_is)
    (case a_Leases_let_go => k_is)
    (case i_Leases_let_go => k_is)
    (case l_Leases_let_go => k_is)
    (case c_Leases_let_go => k_is)
    (case k_Leases_let_go => k_is)
    (case a_Early_init => k_is)
    (case i_Early_init => k_is)
    (case l_Early_init => k_is)
    (case c_Early_init => k_is)
    (case k_Early_init => k_is)
    (case xm_Early_init => kernel_rfl)
    (case xt_Early_init => k_is)
    (case xk_Early_init => k_is)
    (case a_Leases_token_of => k_is)
    (case i_Leases_token_of => k_is)
    (case l_Leases_token_of => k_is)
    (case c_Leases_token_of => k_is)
    (case k_Leases_token_of => k_is)
    (case a_Leases_give => k_is)
    (case i_Leases_give => k_is)
    (case l_Leases_give => k_is)
    (case c_Leases_give => k_is)
    (case k_Leases_give => k_is)
    (case a_Leases_until_of => k_is)
    (case i_Leases_until_of => k_is)
    (case l_Leases_until_of => k_is)
    (case c_Leases_until_of => k_is)
    (case k_Leases_until_of => k_is)
    (case a_Leases_renew => k_is)
    (case i_Leases_renew => k_is)
    (case l_Leases_renew => k_is)
    (case c_Leases_renew => k_is)
    (case k_Leases_renew => k_is)
    (case a_l_renewed => k_is)
    (case l_l_renewed => k_is)
    (case c_l_renewed => k_is)
    (case k_l_renewed => k_is)
    (case a_Leases_all_leases => k_is)
    (case i_Leases_all_leases => k_is)
    (case l_Leases_all_leases => k_is)
    (case c_Leases_all_leases => k_is)
    (case k_Leases_all_leases => k_is)
    (case a_l_gone => k_is)
    (case l_l_gone => k_is)
    (case c_l_gone => k_is)
    (case k_l_gone => k_is)
    (case a_law => k_is)
    (case l_law => k_is)
    (case c_law => k_is)
    (case k_law => k_is)
    (case aC_Leases => k_is)
    (case pg_Leases => k_is)
    (case hd_Leases => k_is)
    (case po_Leases => k_is)
    (case sa_Leases => k_is)
    (case mk_Leases => k_is)
    (case kc_Leases => k_is)
    (case xg_Early => k_is)
    (case xg1 => k_is)
    (case xg2 => k_is)
    (case x1_Early => kernel_rfl)
    (case x2_Early => k_is)
    (case x3_Early => k_is)
    (case x4_Early => k_is)
    (case x5_Early => k_is)
    (case xf_e_Early_Early => kernel_rfl)
    (case n_Early_until => k_is)
    (case n_Leases_last => k_is)
    (case n_Leases_let => k_is)
    (case b_abs => k_is)
    (case b_int => k_is)
    (case b_len => k_is)
    (case b_max => k_is)
    (case b_range => k_is)
    (case b_sorted => k_is)
    (case g_LEASE => k_is)

