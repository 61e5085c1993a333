import PyProof.Rows.All
import Wide.All
import OpenK.AllK
import Wide.FinOn
import Lean
import PyProof.EqAt
import PyProof.EqKinds
import PyProof.TupleCall
import KE.KSortTup
import KE.KDictSum
import PyProof.Rows.Range3
import PyProof.Rows.SortRev
import PyProof.StrBlock2
import PyProof.ZipIter
import PyProof.Rows.ZipGen
import PyProof.NeKinds
import PyProof.DictCompW
import PyProof.DictWalks
import PyProof.AttrMissHeap
import PyProof.WalksS
import KE.KDictOf
import KE.KListMore
import KE.KEqDict
import PyProof.P3In
import PySem.Challenge.RW_placedworks_k47_whole_machine_is_its_las
set_option genSizeOf false
set_option genSizeOfSpec false
set_option Elab.async false
set_option linter.all false
set_option maxRecDepth 100000
namespace L2
open PySem PySem.Spec PyProof.Rows
abbrev Key := Sum Int Str
def keyIs : Key -> Value -> Bool
  | .inl k,v => Value.isInt k v
  | .inr x,v => Value.isStrOf x v
def keyH (w : World) : Key -> Int
  | .inl k => hashInt k
  | .inr x => hashStr w x
theorem keyIs_shape : ∀ {k : Key} {v : Value},keyIs k v = true -> (∃ i t,k = Sum.inl i /\ v = Value.int i t) \/ (∃ x t,k = Sum.inr x /\ v = Value.str x t)
  | .inl i,v,h => by
    obtain ⟨t,e⟩ := Value.isInt_shape (k := i) (v := v) h
    exact .inl ⟨i,t,rfl,e⟩
  | .inr x,v,h => by
    obtain ⟨t,e⟩ := Value.isStrOf_shape (x := x) (v := v) h
    exact .inr ⟨x,t,rfl,e⟩
theorem keyIs_int (i : Int) (t : Tok) : keyIs (.inl i) (.int i t) = true := by simp [keyIs,Value.isInt]
theorem keyIs_str (x : Str) (t : Tok) : keyIs (.inr x) (.str x t) = true := by simp [keyIs,Value.isStrOf]
theorem key_ll (a b : Int) : decide ((Sum.inl a : Key) = Sum.inl b) = (a == b) := by
  by_cases e : a = b
  · subst e; simp
  · have h : ¬ (Sum.inl a : Key) = Sum.inl b := λ q => e (Sum.inl.inj q)
    rw [decide_eq_false h]
    exact (beq_eq_false_iff_ne.mpr e).symm
theorem key_rr (a b : Str) : decide ((Sum.inr a : Key) = Sum.inr b) = decide (a = b) := by
  by_cases e : a = b
  · subst e; simp
  · have h : ¬ (Sum.inr a : Key) = Sum.inr b := λ q => e (Sum.inr.inj q)
    rw [decide_eq_false h,decide_eq_false e]
theorem key_lr (a : Int) (b : Str) : decide ((Sum.inl a : Key) = Sum.inr b) = false := decide_eq_false (λ q => nomatch q)
theorem key_rl (a : Str) (b : Int) : decide ((Sum.inr a : Key) = Sum.inl b) = false := decide_eq_false (λ q => nomatch q)

def mixKind (prog : Program) (w : World) : PySem.KeyKind prog w Key where
  is := keyIs
  hash := keyH w
  inj := λ v a b ha hb => by
    rcases keyIs_shape ha with ⟨i,t,rfl,rfl⟩ | ⟨x,t,rfl,rfl⟩
    · rcases keyIs_shape hb with ⟨j,u,rfl,e⟩ | ⟨y,u,rfl,e⟩
      · injection e with e1 _; rw [e1]
      · exact nomatch e
    · rcases keyIs_shape hb with ⟨j,u,rfl,e⟩ | ⟨y,u,rfl,e⟩
      · exact nomatch e
      · injection e with e1 _; rw [e1]
  byValue := λ k v h => by
    rcases keyIs_shape h with ⟨i,t,rfl,rfl⟩ | ⟨x,t,rfl,rfl⟩ <;> rfl
  pyHash := λ hv h => by
    rcases keyIs_shape hv with ⟨i,t,rfl,rfl⟩ | ⟨x,t,rfl,rfl⟩
    · exact wpAny_pyHash_int h
    · exact wpAny_pyHash_str h
  eqBool := λ hu hv h => by
    rcases keyIs_shape hu with ⟨i,t,rfl,rfl⟩ | ⟨x,t,rfl,rfl⟩
    · rcases keyIs_shape hv with ⟨j,u,rfl,rfl⟩ | ⟨y,u,rfl,rfl⟩
      · rw [key_ll] at h; exact wpAny_eqBool_int h
      · rw [key_lr] at h; exact SeqAt.EqAt.int_str i t y u _ _ _ _ h
    · rcases keyIs_shape hv with ⟨j,u,rfl,rfl⟩ | ⟨y,u,rfl,rfl⟩
      · rw [key_rl] at h; exact SeqAt.EqAt.str_int x t j u _ _ _ _ h
      · rw [key_rr] at h; exact wpAny_eqBool_str h
  «strs» := λ k x t v h => by
    rcases keyIs_shape h with ⟨i,u,rfl,e⟩ | ⟨y,u,rfl,e⟩
    · exact nomatch e
    · injection e with e1 _
      subst e1
      cases v <;> rfl

theorem mixKind_int (prog : Program) (w : World) (i : Int) (t : Tok) : (mixKind prog w).is (.inl i) (.int i t) = true := keyIs_int i t
theorem mixKind_str (prog : Program) (w : World) (x : Str) (t : Tok) : (mixKind prog w).is (.inr x) (.str x t) = true := keyIs_str x t
end L2
namespace L2
open PySem PySem.Spec PyProof.Rows
inductive V where
  | non | bl (b : Bool) | int (i : Int) | str (x : Str) | byt (b : Array UInt8) | flt (b : UInt64) | ref (a : Addr) | ty (n : String)
  deriving DecidableEq

def RelV : V -> Value -> Prop
  | .non,u => u = Value.none
  | .bl b,u => u = Value.bool b
  | .int i,u => ∃ t,u = Value.int i t
  | .str x,u => ∃ t,u = Value.str x t
  | .byt b,u => ∃ t,u = Value.bytes b t
  | .flt b,u => ∃ t,u = Value.float b t
  | .ref a,u => u = Value.ref a
  | .ty n,u => u = Value.type n

abbrev Vals : List V -> List Value -> Prop := Paired RelV
theorem Vals.length {xs : List V} {us : List Value} (r : Vals xs us) : xs.length = us.length := Paired.length r
theorem Vals.get : ∀ {xs : List V} {us : List Value} {i : Nat} {x : V},Vals xs us -> xs[i]? = some x -> ∃ u,us[i]? = some u /\ RelV x u
  | _,_,_,_,.nil,e => by simp at e
  | _,_,0,_,.cons r _,e => by simp at e; subst e; exact ⟨_,rfl,r⟩
  | _,_,i + 1,x,.cons _ t,e => by
    obtain ⟨u,h1,h2⟩ := Vals.get (i := i) (x := x) t (by simpa using e)
    exact ⟨u,by simpa using h1,h2⟩
theorem Vals.set {x : V} {u : Value} (r : RelV x u) : ∀ {xs : List V} {us : List Value} (i : Nat),Vals xs us -> Vals (xs.set i x) (us.set i u)
  | _,_,_,.nil => .nil
  | _,_,0,.cons _ t => .cons r t
  | _,_,i + 1,.cons q t => .cons q (Vals.set r i t)
theorem Vals.append : ∀ {xs ys : List V} {us ws : List Value},Vals xs us -> Vals ys ws -> Vals (xs ++ ys) (us ++ ws)
  | _,_,_,_,.nil,s => s
  | _,_,_,_,.cons r t,s => .cons r (Vals.append t s)
theorem Vals.take : ∀ {xs : List V} {us : List Value} (n : Nat),Vals xs us -> Vals (xs.take n) (us.take n)
  | _,_,0,_ => .nil
  | _,_,_ + 1,.nil => .nil
  | _,_,n + 1,.cons r t => .cons r (Vals.take n t)
theorem Vals.drop : ∀ {xs : List V} {us : List Value} (n : Nat),Vals xs us -> Vals (xs.drop n) (us.drop n)
  | _,_,0,r => r
  | _,_,_ + 1,.nil => .nil
  | _,_,n + 1,.cons _ t => Vals.drop n t
def RelO : Option V -> Option Value -> Prop
  | some v,some u => RelV v u
  | none,none => True
  | _,_ => False
def KV {κ : Type} : List (κ × V) -> List (κ × Value) -> Prop := Paired λ (p : κ × V) (q : κ × Value) => p.1 = q.1 /\ RelV p.2 q.2

def kV : Key -> V
  | .inl i => .int i
  | .inr x => .str x

inductive HO where
  /-- a list -/
  | lst (xs : List V)
  /-- a tuple (never changes) -/
  | tup (xs : List V)
  /-- a dict whose keys are ints and texts; one whose keys are tuples of ints and texts (the empty one is both) -/
  | dK (kvs : List (Key × V)) | dT (kvs : List (List Key × V))
  /-- a set of ints: its members,its size -/
  | set (S : Int -> Bool) (n : Nat)
  /-- an instance of the class at C,its dict at dx,its attributes -/
  | ins (C dx : Addr) (fs : List (Str × V))
  /-- the dict of the instance at x -/
  | own (x : Addr)
  /-- the dict of an exception -/
  | xd (fs : List (Str × V))
  /-- a bound method,f of x -/
  | met (f x : Addr)
  /-- a range object lo,lo + 1,.. below hi -/
  | rng (lo hi : Int)
  /-- a thing that is known to the object (the script; a dict while a loop walks it): read,never written while it is so -/
  | frz (o : Obj) (u : HO)
  /-- a code object's table -/
  | tbl (ps : Array Value)
  /-- any other thing,by what is true of its one object (a def of one's own: SetO a S n := HO.ext λ h => ..) -/
  | ext (φ : Heap -> Prop)

abbrev Hp := Addr -> Option HO
def upd (H : Hp) (a : Addr) (o : HO) : Hp := λ b => if b = a then some o else H b
theorem upd_same {H : Hp} {a : Addr} {o : HO} : upd H a o a = some o := by unfold upd; rw [if_pos rfl]
theorem upd_ne {H : Hp} {a b : Addr} {o : HO} (h : b ≠ a) : upd H a o b = H b := by unfold upd; rw [if_neg h]
theorem upd_upd {H : Hp} {a : Addr} {o u : HO} : upd (upd H a o) a u = upd H a u := by
  funext b; unfold upd; split <;> rfl
theorem ne_of {H : Hp} {a b : Addr} {o u : HO} (h : H a = some o) (h' : H b = some u) (d : o ≠ u) : a ≠ b := by
  intro e; subst e; rw [h] at h'; exact d (Option.some.inj h')
theorem ne_of_none {H : Hp} {a b : Addr} {o : HO} (h : H a = some o) (h' : H b = none) : a ≠ b := by
  intro e; subst e; rw [h] at h'; cases h'

section
variable (P : Program) (w : World)
def ObjOk (H : Hp) (h : Heap) (a : Addr) : HO -> Prop
  | .lst xs => xs.length <= sizeLine /\ ∃ (its : List Value) (n : Nat),Vals xs its /\ h.get? a = some { cls := .type "list",data := .seq its.toArray n }
  | .tup xs => xs.length <= sizeLine /\ ∃ its : List Value,Vals xs its /\ IsTup h a its.toArray
  | .dK kvs => kvs.length <= sizeLine /\ (a == sysModules) = false /\ ∃ vs,KV kvs vs /\ h.DictOf (mixKind P w) a vs
  | .dT kvs => kvs.length <= sizeLine /\ (a == sysModules) = false /\ ∃ xs : List (List Key × Addr × Value),
      Paired (λ (p : List Key × V) (q : List Key × Addr × Value) => p.1 = q.1 /\ H q.2.1 = some (.tup (p.1.map kV)) /\ RelV p.2 q.2.2) kvs xs /\
      ∃ o es ep,h.get? a = some o /\ o.ExactDict /\ o.data = .dict es ep /\ es.toList = xs.map (entryOfKey (tupleKind (mixKind P w))) /\ (xs.map (·.1)).Nodup
  | .set S n => h.SetOf (intKind P w) a S n
  | .ins C dx fs => H dx = some (.own a) /\ fs.length <= 1000 /\ dx ≠ a /\ h.get? a = some (PySem.W.instObj C dx) /\
      ∃ mA,h.Ns1 dx mA /\ (∀ f,RelO (fs.lookup f) (mA f)) /\ PySem.Within mA (fs.map (·.1))
  | .own _ => ∃ o,h.get? a = some o
  | .xd fs => ∃ mA,h.Ns1 a mA /\ ∀ f,RelO (fs.lookup f) (mA f)
  | .rng lo hi => ∃ t u v,h.get? a = some { cls := .type "range",data := .fields #[.int lo t,.int hi u,.int 1 v] }
  | .frz o u => h.get? a = some o /\ ObjOk H h a u
  | .tbl ps => h.get? a = some { cls := .none,data := .fields ps }
  | .met f x => h.get? a = some (PySem.W.methodObj (.ref f) (.ref x))
  | .ext φ => φ h /\ (∃ o,h.get? a = some o) /\ ∀ h1 h2 : Heap,φ h1 -> (∀ o,h1.get? a = some o -> h2.get? a = some o) -> φ h2
def HOk (H : Hp) (h : Heap) : Prop := ∀ a o,H a = some o -> ObjOk P w H h a o
end
section
variable {P : Program} {w : World} {H H' : Hp} {h h' : Heap} {a : Addr} {o : HO}
theorem ObjOk.lt (x : ObjOk P w H h a o) : a < h.objs.size := by
  cases o with
  | lst xs => obtain ⟨_,_,_,_,e⟩ := x; exact Heap.lt_size e
  | tup xs => obtain ⟨_,_,_,p⟩ := x; exact p.lt
  | dK kvs => obtain ⟨_,_,_,_,o,_,_,e,_⟩ := x; exact Heap.lt_size e
  | dT kvs => obtain ⟨_,_,_,_,o,_,_,e,_⟩ := x; exact Heap.lt_size e
  | set S n => obtain ⟨o,_,_,_,e,_⟩ := x; exact Heap.lt_size e
  | ins C dx fs => obtain ⟨_,_,_,e,_⟩ := x; exact Heap.lt_size e
  | own y => obtain ⟨_,e⟩ := x; exact Heap.lt_size e
  | xd fs => obtain ⟨_,⟨_,_,_,e,_⟩,_⟩ := x; exact Heap.lt_size e
  | rng lo hi => obtain ⟨_,_,_,e⟩ := x; exact Heap.lt_size e
  | frz ob u => obtain ⟨e,_⟩ := x; exact Heap.lt_size e
  | tbl ps => exact Heap.lt_size (show h.get? a = some _ from x)
  | met f y => exact Heap.lt_size (show h.get? a = some _ from x)
  | ext φ => obtain ⟨_,⟨_,e⟩,_⟩ := x; exact Heap.lt_size e
theorem Paired.mapP {α β : Type} {F G : α -> β -> Prop} : ∀ {l₁ : List α} {l₂ : List β},Paired F l₁ l₂ -> (∀ a b,F a b -> G a b) -> Paired G l₁ l₂
  | _,_,.nil,_ => .nil
  | _,_,.cons r t,f => .cons (f _ _ r) (Paired.mapP t f)
theorem ObjOk.stay (x : ObjOk P w H h a o) (k : ∀ b u,(b = a \/ H b = some (.own a)) -> h.get? b = some u -> h'.get? b = some u)
    (ho : ∀ b,H b = some (.own a) -> H' b = some (.own a)) (ht : ∀ b xs,H b = some (.tup xs) -> H' b = some (.tup xs)) : ObjOk P w H' h' a o := by
  induction o with
  | lst xs => obtain ⟨z,its,n,r,e⟩ := x; exact ⟨z,its,n,r,k _ _ (.inl rfl) e⟩
  | tup xs => obtain ⟨z,its,r,ob,e,c⟩ := x; exact ⟨z,its,r,ob,k _ _ (.inl rfl) e,c⟩
  | dK kvs => obtain ⟨z,y,vs,r,ob,es,ep,e,c⟩ := x; exact ⟨z,y,vs,r,ob,es,ep,k _ _ (.inl rfl) e,c⟩
  | dT kvs =>
    obtain ⟨z,y,xs,r,ob,es,ep,e,c⟩ := x
    exact ⟨z,y,xs,Paired.mapP r λ p q z => ⟨z.1,ht _ _ z.2.1,z.2.2⟩,ob,es,ep,k _ _ (.inl rfl) e,c⟩
  | set S n => obtain ⟨ob,es,ep,t,e,c⟩ := x; exact ⟨ob,es,ep,t,k _ _ (.inl rfl) e,c⟩
  | ins C dx fs =>
    obtain ⟨d,z,ne,e,mA,⟨od,es,ep,e2,c⟩,r⟩ := x
    exact ⟨ho _ d,z,ne,k _ _ (.inl rfl) e,mA,⟨od,es,ep,k _ _ (.inr d) e2,c⟩,r⟩
  | own y => obtain ⟨ob,e⟩ := x; exact ⟨ob,k _ _ (.inl rfl) e⟩
  | xd fs => obtain ⟨mA,⟨od,es,ep,e,c⟩,r⟩ := x; exact ⟨mA,⟨od,es,ep,k _ _ (.inl rfl) e,c⟩,r⟩
  | rng lo hi => obtain ⟨t,u,v,e⟩ := x; exact ⟨t,u,v,k _ _ (.inl rfl) e⟩
  | frz ob u ih => obtain ⟨e,q⟩ := x; exact ⟨k _ _ (.inl rfl) e,ih q⟩
  | tbl ps =>
    have e : h.get? a = some { cls := .none,data := .fields ps } := x
    show h'.get? a = some { cls := .none,data := .fields ps }
    exact k a _ (.inl rfl) e
  | met f y =>
    have e : h.get? a = some (PySem.W.methodObj (.ref f) (.ref y)) := x
    show h'.get? a = some (PySem.W.methodObj (.ref f) (.ref y))
    exact k a _ (.inl rfl) e
  | ext φ => obtain ⟨p,⟨o,e⟩,st⟩ := x; exact ⟨st _ _ p λ o q => k _ _ (.inl rfl) q,⟨o,k _ _ (.inl rfl) e⟩,st⟩
theorem HOk.lt (x : HOk P w H h) (e : H a = some o) : a < h.objs.size := (x a o e).lt
theorem HOk.fresh (x : HOk P w H h) (e : h.objs.size <= a) : H a = none := by
  cases q : H a with
  | none => rfl
  | some u => exact absurd (Nat.lt_of_lt_of_le (x.lt q) e) (Nat.lt_irrefl _)
theorem HOk.kept (x : HOk P w H h) (k : ∀ b u,h.get? b = some u -> h'.get? b = some u) : HOk P w H h' := λ a o e =>
  (x a o e).stay (λ b u _ q => k b u q) (λ _ q => q) λ _ _ q => q
theorem HOk.laid (x : HOk P w H h) (k : ∀ b u,h.get? b = some u -> h'.get? b = some u) (hp : h.objs.size <= a) (new : ObjOk P w (upd H a o) h' a o) : HOk P w (upd H a o) h' := λ b u e => by
  have hn := x.fresh hp
  by_cases hb : b = a
  · subst hb; rw [upd_same] at e; cases e; exact new
  · rw [upd_ne hb] at e
    exact (x b u e).stay (λ c v _ q => k c v q) (λ c q => by rw [upd_ne (ne_of_none q hn)]; exact q) λ c xs q => by rw [upd_ne (ne_of_none q hn)]; exact q
end
def Rd (H : Hp) (a : Addr) (u : HO) : Prop := H a = some u \/ ∃ o,H a = some (.frz o u)
theorem Rd.ok {P : Program} {w : World} {H : Hp} {h : Heap} {a : Addr} {u : HO} (r : Rd H a u) (x : HOk P w H h) : ObjOk P w H h a u := by
  rcases r with r | ⟨o,r⟩
  · exact x a u r
  · obtain ⟨_,q⟩ := x a _ r
    exact q
def Mut : Option HO -> Prop
  | some (.lst _) => True
  | some (.dK _) => True
  | some (.dT _) => True
  | some (.set _ _) => True
  | some (.ins _ _ _) => True
  | some (.ext _) => True
  | _ => False
section
variable {P : Program} {w : World} {H : Hp} {h h' : Heap} {x e : Addr} {o' : HO}
theorem HOk.write (ok : HOk P w H h) (mu : Mut (H x)) (he : e = x \/ H e = some (.own x)) (k : ∀ b u,b ≠ e -> h.get? b = some u -> h'.get? b = some u) (heo : ∃ u,h'.get? e = some u)
    (new : ObjOk P w (upd H x o') h' x o') : HOk P w (upd H x o') h' := λ b u q => by
  have nown : ∀ c y,H c = some (.own y) -> c ≠ x := λ c y r z => by subst z; rw [r] at mu; exact mu
  have ntup : ∀ c xs,H c = some (.tup xs) -> c ≠ x := λ c xs r z => by subst z; rw [r] at mu; exact mu
  by_cases hb : b = x
  · subst hb; rw [upd_same] at q; cases q; exact new
  · rw [upd_ne hb] at q
    by_cases hbe : b = e
    · have q' : H b = some (.own x) := by
        rcases he with z | z
        · exact absurd (hbe.trans z) hb
        · rw [hbe]; exact z
      rw [q] at q'; cases q'
      obtain ⟨v,hv⟩ := heo
      exact ⟨v,by rw [hbe]; exact hv⟩
    · refine (ok b u q).stay (λ c v hc r => k c v ?_ r) (λ c r => by rw [upd_ne (nown c b r)]; exact r) λ c xs r => by rw [upd_ne (ntup c xs r)]; exact r
      rcases hc with rfl | hc
      · exact hbe
      · rintro rfl
        rcases he with z | z
        · exact nown c b hc z
        · rw [hc] at z; cases z; exact hb rfl
end
structure Un (fs ex : List Addr) (H H' : Hp) (h h' : Heap) : Prop where
  keep : ∀ b o,h.get? b = some o -> H b = none -> b ∉ fs -> b ∉ ex -> h'.get? b = some o
  slot : ∀ b o,h.get? b = some o -> H b = none -> b ∈ fs -> b ∉ ex -> ∃ sl,h'.get? b = some { o with slots := sl }
  free : ∀ b o,h.get? b = some o -> H b = none -> b ∉ ex -> H' b = none
  there : ∀ b o,h.get? b = some o -> b ∉ ex -> ∃ o',h'.get? b = some o'
  tups : ∀ b xs,H b = some (.tup xs) -> H' b = some (.tup xs)
  frzs : ∀ b o u,H b = some (.frz o u) -> H' b = some (.frz o u)
  tbls : ∀ b ps,H b = some (.tbl ps) -> ∃ more,H' b = some (.tbl (ps ++ more))
section
variable {fs fs' ex ex' : List Addr} {H H1 H2 : Hp} {h h1 h2 h' : Heap} {a x e : Addr} {o : HO}
theorem Un.any (u : Un fs ex H H1 h h1) {b : Addr} {ob : Obj} (q : h.get? b = some ob) (n : H b = none) (hx : b ∉ ex) : ∃ sl,h1.get? b = some { ob with slots := sl } := by
  by_cases hb : b ∈ fs
  · exact u.slot b ob q n hb hx
  · exact ⟨ob.slots,u.keep b ob q n hb hx⟩
theorem Un.kept (k : ∀ b u,h.get? b = some u -> h'.get? b = some u) : Un fs ex H H h h' :=
  ⟨λ b ob q _ _ _ => k b ob q,λ b ob q _ _ _ => ⟨ob.slots,k b ob q⟩,λ _ _ _ n _ => n,λ b ob q _ => ⟨ob,k b ob q⟩,λ _ _ q => q,λ _ _ _ q => q,λ _ ps q => ⟨#[],by rw [q]; simp⟩⟩
theorem Un.refl : Un fs ex H H h h := Un.kept λ _ _ q => q
theorem Un.laid (k : ∀ b u,h.get? b = some u -> h'.get? b = some u) (hp : h.objs.size <= a) (hn : H a = none) : Un fs ex H (upd H a o) h h' where
  keep := λ b u q _ _ _ => k b u q
  slot := λ b u q _ _ _ => ⟨u.slots,k b u q⟩
  free := λ b u q n _ => by rw [upd_ne (Nat.ne_of_lt (Nat.lt_of_lt_of_le (Heap.lt_size q) hp))]; exact n
  there := λ b u q _ => ⟨u,k b u q⟩
  tups := λ b xs q => by rw [upd_ne (ne_of_none q hn)]; exact q
  frzs := λ b u xs q => by rw [upd_ne (ne_of_none q hn)]; exact q
  tbls := λ b ps q => ⟨#[],by rw [upd_ne (ne_of_none q hn),q]; simp⟩
theorem Un.write (mu : Mut (H x)) (he : e = x \/ H e = some (.own x)) (k : ∀ b u,b ≠ e -> h.get? b = some u -> h'.get? b = some u) (heo : ∃ u,h'.get? e = some u) : Un fs ex H (upd H x o) h h' := by
  have hx : ∀ b,H b = none -> b ≠ x := λ b n z => by subst z; rw [n] at mu; exact mu
  have hb : ∀ b,H b = none -> b ≠ e := λ b n z => by
    subst z
    rcases he with r | r
    · exact hx b n r
    · rw [n] at r; cases r
  have hm : ∀ b u,H b = some u -> ¬ Mut (some u) -> b ≠ x := λ b u q nm z => by subst z; rw [q] at mu; exact nm mu
  refine ⟨λ b u q n _ _ => k b u (hb b n) q,λ b u q n _ _ => ⟨u.slots,k b u (hb b n) q⟩,λ b u q n _ => by rw [upd_ne (hx b n)]; exact n,λ b u q _ => ?_,
    λ b xs q => by rw [upd_ne (hm b _ q λ z => z)]; exact q,λ b u xs q => by rw [upd_ne (hm b _ q λ z => z)]; exact q,λ b ps q => ⟨#[],by rw [upd_ne (hm b _ q λ z => z),q]; simp⟩⟩
  by_cases hbe : b = e
  · subst hbe; exact heo
  · exact ⟨u,k b u hbe q⟩
end
def trk (h : Heap) (H : Hp) : List Addr := (List.range h.objs.size).filter λ a => (H a).isSome
def hidT (h : Heap) (H : Hp) : Heap := PySem.W.hideAll h (trk h H)
theorem hidT_size (h : Heap) (H : Hp) : (hidT h H).objs.size = h.objs.size := PySem.W.hideAll_size _ _
theorem hidT_get {h : Heap} {H : Hp} {b : Addr} {o : Obj} (e : h.get? b = some o) (n : H b = none) : (hidT h H).get? b = some o :=
  PySem.W.hideAll_get _ e λ hm => by
    have q : (H b).isSome = true := (List.mem_filter.mp hm).2
    rw [n] at q; simp at q
theorem of_hidT {h : Heap} {H : Hp} {b : Addr} {o : Obj} (e : (hidT h H).get? b = some o) : h.get? b = some o /\ H b = none := by
  have e' : h.get? b = some o := PySem.W.of_hideAll (trk h H) e
  refine ⟨e',?_⟩
  cases q : H b with
  | none => rfl
  | some x =>
    have hm : b ∈ trk h H := List.mem_filter.mpr ⟨List.mem_range.mpr (Heap.lt_size e'),by simp [q]⟩
    have z : (hidT h H).get? b = none := PySem.W.hideAll_none (trk h H) hm
    rw [z] at e; cases e

def allNews (g h : Heap) (L : Addr) : List (Addr × Obj) := (List.range h.objs.size).filterMap λ a => if a = L \/ (g.get? a).isSome = true then none else (h.get? a).map λ o => (a,o)
def rest (g h : Heap) (L d : Addr) : List (Addr × Obj) := (allNews g h L).filter λ p => decide (p.1 ≠ d)
end L2
namespace L2
open PySem PySem.Spec PyProof.Rows
structure Mod (K : PySem.W.Frag) (mg : Str -> Option Value) (base : Heap) : Prop where
  kin : K.In base
  glob : base.Ns mainGlobals mg
  blt : ∃ mb,base.Ns builtinsNs mb /\ ∀ x : Str,x ≠ "__name__" -> mb x = bootBuiltins x
  nolimit : base.NoLimit

structure Cx where
  prog : Program
  w : World
  K : PySem.W.Frag
  mg : Str -> Option Value
  base : Heap
  A : Around
  N : List Str
  s₀ : Shared
  H₀ : Hp
  env : Env
  outer : List Env
  stack : List Env
  ex : List Addr
  fn : Str -> Bool
  calm : Bool
  pn : List (Addr × Obj)
  xe : Value -> Shared -> Prop
def frs (l : List Env) : List Addr := l.filterMap (·.frame)
abbrev Cx.fs (X : Cx) : List Addr := frs X.outer

def Vis (sc : Scope) (x : Str) : Prop := sc.names.lookup x = some .local \/ sc.names.lookup x = some .cell \/ sc.names.lookup x = some .free
def Loc (sc : Scope) (x : Str) : Prop := sc.names.lookup x = some .local \/ sc.names.lookup x = some .cell
def Look (env : Env) (h : Heap) (m : Str -> Option Value) (x : Str) (u : Value) : Prop :=
  (env.kindOf x = some .local /\ m x = some u) \/ ((env.kindOf x = some .cell \/ env.kindOf x = some .free) /\ ∃ c,env.cells.lookup x = some c /\ h.IsCell c (some u))

structure Cx.Ok (X : Cx) : Prop where
  mod : Mod X.K X.mg X.base
  kind : X.env.scope.kind = .function
  glob : X.env.globals = mainGlobals
  blt : X.env.builtins = builtinsNs
  above : X.s₀.heap.objs.size <= X.env.locals
  inj : ∀ x y c,X.env.cells.lookup x = some c -> X.env.cells.lookup y = some c -> x = y
  has : ∀ x,(X.env.kindOf x = some .cell \/ X.env.kindOf x = some .free) -> ∃ c,X.env.cells.lookup x = some c
  cab : ∀ x c,X.fn x = true -> X.env.cells.lookup x = some c -> X.s₀.heap.objs.size <= c
  hd : X.calm = true -> X.A.handled = none
  frames : X.A.frames = some X.stack
  stk : X.stack = X.outer \/ (X.stack = X.env :: X.outer /\ X.env.frame = some X.env.locals)
  exf : ∀ b ∈ X.ex,b ≠ X.env.locals /\ ∀ x c,X.env.cells.lookup x = some c -> c ≠ b
  bs : ∀ b o,X.base.get? b = some o -> X.s₀.heap.get? b = some o /\ X.H₀ b = none
  bsz : X.base.objs.size <= X.s₀.heap.objs.size
  noex : ∀ b o,X.base.get? b = some o -> b ∉ X.ex
  exfs : ∀ b ∈ X.ex,b ∉ X.fs
  funs : X.s₀.heap.FunFrames X.base X.outer
  frf : ∀ b ∈ X.fs,X.H₀ b = none

structure Inv (X : Cx) (pins : List (Addr × Obj)) (σ : List (Option V)) (H : Hp) (s : Shared) : Prop where
  ok : X.Ok
  os : s.os = X.s₀.os
  bare : AllBare s.gens
  base : Un X.fs X.ex X.H₀ H X.s₀.heap s.heap
  loc : ∃ m,s.heap.Ns X.env.locals m /\ ∀ (i : Nat) (x : Str) (v : V),X.N[i]? = some x -> σ[i]? = some (some v) -> Vis X.env.scope x -> ∃ u,RelV v u /\ Look X.env s.heap m x u
  cell : ∀ x c,X.env.cells.lookup x = some c -> ∃ v,s.heap.IsCell c v
  free : H X.env.locals = none
  freeC : ∀ x c,X.env.cells.lookup x = some c -> H c = none
  pin : ∀ p ∈ X.pn ++ pins,s.heap.get? p.1 = some p.2 /\ H p.1 = none /\ p.1 ≠ X.env.locals /\ p.1 ∉ X.fs /\ ∀ v,p.2.data ≠ .cell v
  hok : HOk X.prog X.w H s.heap
  len : σ.length = X.N.length

section
variable {X : Cx} {pins : List (Addr × Obj)} {σ : List (Option V)} {H H' : Hp} {s : Shared} {h' : Heap}
theorem Cx.Ok.nofr (ok : X.Ok) {b : Addr} {o : Obj} (e : X.base.get? b = some o) : b ∉ X.fs := λ hb => by
  have := (ok.funs.mem hb).1
  rw [e] at this; cases this
theorem Inv.bs (I : Inv X pins σ H s) : ∀ b o,X.base.get? b = some o -> s.heap.get? b = some o /\ H b = none := λ b o e =>
  ⟨I.base.keep b o (I.ok.bs b o e).1 (I.ok.bs b o e).2 (I.ok.nofr e) (I.ok.noex b o e),I.base.free b o (I.ok.bs b o e).1 (I.ok.bs b o e).2 (I.ok.noex b o e)⟩
theorem Inv.bk (I : Inv X pins σ H s) : ∀ b o,X.base.get? b = some o -> s.heap.get? b = some o := λ b o e => (I.bs b o e).1
theorem Inv.mod (I : Inv X pins σ H s) : Mod X.K X.mg X.base := I.ok.mod
theorem Inv.kIn (I : Inv X pins σ H s) : X.K.In s.heap := I.ok.mod.kin.keeps I.bk
theorem Inv.lt (I : Inv X pins σ H s) : X.env.locals < s.heap.objs.size := let ⟨_,hn,_⟩ := I.loc; hn.lt
theorem Inv.sz (I : Inv X pins σ H s) : X.s₀.heap.objs.size <= s.heap.objs.size := Nat.le_trans I.ok.above (Nat.le_of_lt I.lt)
theorem Inv.nofs (I : Inv X pins σ H s) {a : Addr} (h : s.heap.objs.size <= a) : a ∉ X.fs := λ hb => by
  obtain ⟨_,o,ho,_⟩ := I.ok.funs.mem hb
  exact absurd (Nat.lt_of_lt_of_le (Heap.lt_size ho) (Nat.le_trans I.sz h)) (Nat.lt_irrefl _)
theorem Inv.cne (I : Inv X pins σ H s) : ∀ x c,X.env.cells.lookup x = some c -> c ≠ X.env.locals := λ x c e z => by
  obtain ⟨v,o,ho,hd⟩ := I.cell x c e
  obtain ⟨m,⟨o',es,ep,ho',hd',_⟩,_⟩ := I.loc
  rw [z,ho'] at ho; cases ho; rw [hd'] at hd; cases hd
theorem Inv.funs (I : Inv X pins σ H s) : s.heap.FunFrames X.base X.outer := by
  have all : ∀ (l : List Env),(∀ b ∈ frs l,b ∈ X.fs) -> X.s₀.heap.FunFrames X.base l -> s.heap.FunFrames X.base l := by
    intro l
    induction l with
    | nil => intro _ _; trivial
    | cons env r ih =>
      intro hs hl
      obtain ⟨hk,⟨L,o,hf,hn,ho,hd⟩,hr⟩ := hl
      have hL : L ∈ X.fs := hs L (by unfold frs; rw [List.filterMap_cons,hf]; exact List.mem_cons_self)
      obtain ⟨sl,e⟩ := I.base.slot L o ho (I.ok.frf L hL) hL λ z => I.ok.exfs L z hL
      exact ⟨hk,⟨L,_,hf,hn,e,hd⟩,ih (λ b hb => hs b (by unfold frs; rw [List.filterMap_cons,hf]; exact List.mem_cons_of_mem _ hb)) hr⟩
  exact all X.outer (λ _ hb => hb) I.ok.funs

theorem Inv.stack (I : Inv X pins σ H s) : s.heap.FunFrames X.base X.stack := by
  rcases I.ok.stk with e | ⟨e,hf⟩
  · rw [e]; exact I.funs
  · rw [e]
    obtain ⟨m,hn,_⟩ := I.loc
    refine .cons (by rw [I.ok.kind]; decide) hf hn ?_ I.funs
    exact Heap.get?_none_of_le (Nat.le_trans I.ok.bsz I.ok.above)
theorem Inv.stkSub (I : Inv X pins σ H s) : ∀ b ∈ frs X.stack,b ∈ X.env.locals :: X.fs := λ b hb => by
  rcases I.ok.stk with e | ⟨e,hf⟩
  · rw [e] at hb; exact List.mem_cons_of_mem _ hb
  · rw [e] at hb
    unfold frs at hb
    rw [List.filterMap_cons,hf] at hb
    exact hb
theorem Inv.stkFree (I : Inv X pins σ H s) : ∀ b ∈ frs X.stack,H b = none := λ b hb => by
  rcases List.mem_cons.mp (I.stkSub b hb) with e | hb
  · rw [e]; exact I.free
  · obtain ⟨_,o,ho,_⟩ := I.ok.funs.mem hb
    exact I.base.free b o ho (I.ok.frf b hb) λ z => I.ok.exfs b z hb

theorem Inv.step {g' : Array GenState} {t' : Nat} {d' : Drawn} {ch : List Addr} (I : Inv X pins σ H s)
    (hch : ∀ b ∈ ch,(b ∈ X.ex \/ X.s₀.heap.objs.size <= b) /\ b ≠ X.env.locals /\ (∀ x c,X.env.cells.lookup x = some c -> c ≠ b) /\ ∀ p ∈ X.pn ++ pins,p.1 ≠ b)
    (keep : ∀ b o,b ≠ X.env.locals -> b ∉ X.fs -> b ∉ ch -> s.heap.get? b = some o -> H b = none -> h'.get? b = some o)
    (slot : ∀ b o,b ≠ X.env.locals -> b ∈ X.fs -> b ∉ ch -> s.heap.get? b = some o -> H b = none -> ∃ sl,h'.get? b = some { o with slots := sl }) (free : ∀ b o,b ∉ ch -> s.heap.get? b = some o -> H b = none -> H' b = none)
    (there : ∀ b o,b ∉ ch -> s.heap.get? b = some o -> ∃ o',h'.get? b = some o')
    (tups : ∀ b xs,H b = some (.tup xs) -> H' b = some (.tup xs)) (frzs : ∀ b o u,H b = some (.frz o u) -> H' b = some (.frz o u)) (tbls : ∀ b ps,H b = some (.tbl ps) -> ∃ more,H' b = some (.tbl (ps ++ more)))
    (ns : ∀ m,s.heap.Ns X.env.locals m -> h'.Ns X.env.locals m) (hok : HOk X.prog X.w H' h') (hg : AllBare g') :
    Inv X pins σ H' { s with heap := h',gens := g',drawn := d',toks := t' } := by
  have neL : ∀ b o,X.s₀.heap.get? b = some o -> b ≠ X.env.locals := λ b o e => Nat.ne_of_lt (Nat.lt_of_lt_of_le (Heap.lt_size e) I.ok.above)
  have neC : ∀ b o,X.s₀.heap.get? b = some o -> b ∉ X.ex -> b ∉ ch := λ b o e hx hb => by
    rcases (hch b hb).1 with z | z
    · exact hx z
    · exact absurd (Nat.lt_of_lt_of_le (Heap.lt_size e) z) (Nat.lt_irrefl _)
  have cellK : ∀ x c,X.env.cells.lookup x = some c -> ∀ v,s.heap.IsCell c v -> h'.IsCell c v := λ x c e v hq0 => by
    obtain ⟨o,ho,hd⟩ := hq0
    have nch : c ∉ ch := λ z => (hch c z).2.2.1 x c e rfl
    by_cases hc : c ∈ X.fs
    · obtain ⟨sl,q⟩ := slot c o (I.cne x c e) hc nch ho (I.freeC x c e)
      exact ⟨_,q,hd⟩
    · exact ⟨o,keep c o (I.cne x c e) hc nch ho (I.freeC x c e),hd⟩
  refine ⟨I.ok,I.os,hg,⟨λ b o e n hb hx => ?_,λ b o e n hb hx => ?_,λ b o e n hx => ?_,λ b o e hx => ?_,λ b xs e => tups b xs (I.base.tups b xs e),λ b o xs e => frzs b o xs (I.base.frzs b o xs e),λ b ps e => ?_⟩,?_,λ x c e => ?_,?_,λ x c e => ?_,λ p hp => ?_,hok,I.len⟩
  · exact keep b o (neL b o e) hb (neC b o e hx) (I.base.keep b o e n hb hx) (I.base.free b o e n hx)
  · obtain ⟨sl,e1⟩ := I.base.slot b o e n hb hx
    obtain ⟨sl',e2⟩ := slot b _ (neL b o e) hb (neC b o e hx) e1 (I.base.free b o e n hx)
    exact ⟨sl',e2⟩
  · obtain ⟨o',e1⟩ := I.base.there b o e hx
    exact free b o' (neC b o e hx) e1 (I.base.free b o e n hx)
  · obtain ⟨o',e1⟩ := I.base.there b o e hx
    exact there b o' (neC b o e hx) e1
  · obtain ⟨m1,e1⟩ := I.base.tbls b ps e
    obtain ⟨m2,e2⟩ := tbls b _ e1
    exact ⟨m1 ++ m2,by rw [e2,Array.append_assoc]⟩
  · obtain ⟨m,hn,hl⟩ := I.loc
    refine ⟨m,ns m hn,λ i x v e1 e2 e3 => ?_⟩
    obtain ⟨u,r,l⟩ := hl i x v e1 e2 e3
    refine ⟨u,r,?_⟩
    rcases l with l | ⟨k,c,e,z⟩
    · exact .inl l
    · exact .inr ⟨k,c,e,cellK x c e _ z⟩
  · obtain ⟨v,z⟩ := I.cell x c e
    exact ⟨v,cellK x c e v z⟩
  · obtain ⟨m,⟨o,_,_,ho,_⟩,_⟩ := I.loc
    exact free _ o (λ z => (hch _ z).2.1 rfl) ho I.free
  · obtain ⟨v,o,ho,hd⟩ := I.cell x c e
    exact free c o (λ z => (hch c z).2.2.1 x c e rfl) ho (I.freeC x c e)
  · obtain ⟨e,n,ne,nf,d⟩ := I.pin p hp
    have nch : p.1 ∉ ch := λ z => (hch p.1 z).2.2.2 p hp rfl
    exact ⟨keep p.1 p.2 ne nf nch e n,free p.1 p.2 nch e n,ne,nf,d⟩
theorem Inv.un {t' : Nat} (I : Inv X pins σ H s) (u : Un X.fs [] H H' s.heap h') (hok : HOk X.prog X.w H' h') : Inv X pins σ H' { s with heap := h',toks := t' } := by
  obtain ⟨m,⟨o,es,ep,ho,r⟩,_⟩ := id I.loc
  obtain ⟨sl,hL⟩ := u.any ho I.free (by simp)
  exact I.step (g' := s.gens) (d' := s.drawn) (ch := []) (λ _ z => nomatch z) (λ b o _ hb _ e n => u.keep b o e n hb (by simp)) (λ b o _ hb _ e n => u.slot b o e n hb (by simp)) (λ b o _ e n => u.free b o e n (by simp)) (λ b o _ e => u.there b o e (by simp)) u.tups u.frzs u.tbls (λ m' hm => by
    obtain ⟨o',es',ep',ho',r'⟩ := hm
    rw [ho] at ho'; cases ho'
    exact ⟨_,es',ep',hL,r'⟩) hok I.bare
theorem Inv.call {g' : Array GenState} {t' : Nat} {d' : Drawn} {ch : List Addr} (I : Inv X pins σ H s) (u : Un (frs X.stack) ch H H' s.heap h') (hok : HOk X.prog X.w H' h') (hg : AllBare g')
    (hch : ∀ b ∈ ch,(b ∈ X.ex \/ X.s₀.heap.objs.size <= b) /\ b ≠ X.env.locals /\ (∀ x c,X.env.cells.lookup x = some c -> c ≠ b) /\ ∀ p ∈ X.pn ++ pins,p.1 ≠ b) :
    Inv X pins σ H' { s with heap := h',gens := g',drawn := d',toks := t' } := by
  obtain ⟨m,⟨o,es,ep,ho,r⟩,_⟩ := id I.loc
  obtain ⟨sl,hL⟩ := u.any ho I.free λ z => (hch _ z).2.1 rfl
  exact I.step (ch := ch) hch (λ b o hL hb hc e n => u.keep b o e n (λ z => (List.mem_cons.mp (I.stkSub b z)).elim hL hb) hc) (λ b o _ _ hc e n => u.any e n hc) (λ b o hc e n => u.free b o e n hc) (λ b o hc e => u.there b o e hc) u.tups u.frzs u.tbls (λ m' hm => by
    obtain ⟨o',es',ep',ho',r'⟩ := hm
    rw [ho] at ho'; cases ho'
    exact ⟨_,es',ep',hL,r'⟩) hok hg
theorem Inv.turned {t' : Nat} {it : Addr} (I : Inv X pins σ H s) (k : ∀ b o,b ≠ it -> s.heap.get? b = some o -> h'.get? b = some o) (hn : H it = none) (hL : it ≠ X.env.locals)
    (h1 : it ∈ X.ex \/ X.s₀.heap.objs.size <= it) (h2 : ∀ x c,X.env.cells.lookup x = some c -> c ≠ it) (h3 : ∀ p ∈ X.pn ++ pins,p.1 ≠ it) : Inv X pins σ H { s with heap := h',toks := t' } := by
  have nit : ∀ b u,H b = some u -> b ≠ it := λ b u e z => by rw [z,hn] at e; cases e
  refine I.step (g' := s.gens) (d' := s.drawn) (ch := [it]) (λ b hb => ?_) (λ b o _ _ hc e _ => k b o (λ z => hc (by simp [z])) e) (λ b o _ _ hc e _ => ⟨o.slots,k b o (λ z => hc (by simp [z])) e⟩) (λ _ _ _ _ n => n)
    (λ b o hc e => ⟨o,k b o (λ z => hc (by simp [z])) e⟩) (λ _ _ e => e) (λ _ _ _ e => e) (λ b ps e => ⟨#[],by rw [e]; simp⟩) (λ m hm => ?_) (λ b u e => ?_) I.bare
  · have e : b = it := by simpa using hb
    subst e
    exact ⟨h1,hL,h2,h3⟩
  · obtain ⟨o,es,ep,ho,r⟩ := hm
    exact ⟨o,es,ep,k _ o (Ne.symm hL) ho,r⟩
  · refine (I.hok b u e).stay (λ c v hc q => k c v ?_ q) (λ _ q => q) λ _ _ q => q
    rcases hc with z | z
    · rw [z]; exact nit b u e
    · exact nit c _ z
theorem Inv.tok (I : Inv X pins σ H s) (t : Nat) : Inv X pins σ H { s with toks := t } := I.un (h' := s.heap) (t' := t) Un.refl I.hok
theorem Inv.kept {t' : Nat} (I : Inv X pins σ H s) (k : ∀ b u,s.heap.get? b = some u -> h'.get? b = some u) : Inv X pins σ H { s with heap := h',toks := t' } := I.un (Un.kept k) (I.hok.kept k)
theorem Inv.laid {a : Addr} {o : HO} {t' : Nat} (I : Inv X pins σ H s) (k : ∀ b u,s.heap.get? b = some u -> h'.get? b = some u) (hp : s.heap.objs.size <= a) (new : ObjOk X.prog X.w (upd H a o) h' a o) :
    Inv X pins σ (upd H a o) { s with heap := h',toks := t' } := I.un (Un.laid k hp (I.hok.fresh hp)) (I.hok.laid k hp new)
theorem Inv.write {x e : Addr} {o : HO} {t' : Nat} (I : Inv X pins σ H s) (mu : Mut (H x)) (he : e = x \/ H e = some (.own x)) (k : ∀ b u,b ≠ e -> s.heap.get? b = some u -> h'.get? b = some u) (heo : ∃ u,h'.get? e = some u)
    (new : ObjOk X.prog X.w (upd H x o) h' x o) : Inv X pins σ (upd H x o) { s with heap := h',toks := t' } := I.un (Un.write mu he k heo) (I.hok.write mu he k heo new)
theorem Inv.pins_of {pins' : List (Addr × Obj)} (I : Inv X pins σ H s) (h : ∀ p ∈ pins',s.heap.get? p.1 = some p.2 /\ H p.1 = none /\ p.1 ≠ X.env.locals /\ p.1 ∉ X.fs /\ ∀ v,p.2.data ≠ .cell v) : Inv X pins' σ H s :=
  ⟨I.ok,I.os,I.bare,I.base,I.loc,I.cell,I.free,I.freeC,λ p hp => (List.mem_append.mp hp).elim (λ z => I.pin p (List.mem_append_left _ z)) (h p),I.hok,I.len⟩

theorem nodup_ix {N : List Str} (hN : N.Nodup) {i j : Nat} {x : Str} (a : N[i]? = some x) (b : N[j]? = some x) : i = j := by
  obtain ⟨h1,e1⟩ := List.getElem?_eq_some_iff.mp a
  obtain ⟨h2,e2⟩ := List.getElem?_eq_some_iff.mp b
  exact (List.getElem_inj hN).mp (e1.trans e2.symm)

theorem store_ok2 {M : Model} {A : Around} {E : Value -> Shared -> Prop} {i : Nat} {x : Str} {v : V} {u : Value} {Q : Unit -> Shared -> Prop} (I : Inv X pins σ H s) (hN : X.N.Nodup) (hi : X.N[i]? = some x) (hx : Loc X.env.scope x) (r : RelV v u)
    (h : ∀ s',Inv X pins (σ.set i (some v)) H s' -> (∃ a,Heap.SameBut a s.heap s'.heap /\ (a = X.env.locals \/ X.env.cells.lookup x = some a)) -> Q () s') (hf : X.fn x = true \/ X.env.scope.names.lookup x = some .local := by first | exact .inl rfl | exact .inr rfl | assumption) : wpAny M A (storeName X.env x u) Q E s := by
  obtain ⟨m,hn,hl⟩ := id I.loc
  have hcls : (X.env.scope.kind == .class || (X.env.scope.kind == .module && X.env.locals != X.env.globals)) = false := by rw [I.ok.kind]; rfl
  have hiσ : i < σ.length := by rw [I.len]; exact (List.getElem?_eq_some_iff.mp hi).1
  have cne := I.cne
  have tracked : ∀ {a : Addr} {h' : Heap},(∃ o,s.heap.get? a = some o /\ H a = none) -> Heap.SameBut a s.heap h' -> HOk X.prog X.w H h' := λ {a h'} ha hs b ob e => by
    obtain ⟨_,_,hfree⟩ := ha
    refine (I.hok b ob e).stay (λ c w' hc q => (hs.2 c ?_).trans q) (λ _ q => q) λ _ _ q => q
    rintro rfl
    rcases hc with rfl | hc
    · rw [hfree] at e; cases e
    · rw [hfree] at hc; cases hc
  rcases hx with hk | hk
  · refine wpAny_storeName_local hk hn (λ h' hn' hs => ?_) hcls
    obtain ⟨oL,_,_,hoL,_⟩ := id hn
    refine h _ ⟨I.ok,I.os,I.bare,⟨λ b o e n hb hx => ?_,λ b o e n hb hx => ?_,I.base.free,λ b o e hx => ?_,I.base.tups,I.base.frzs,I.base.tbls⟩,⟨_,hn',λ j y v' e1 e2 e3 => ?_⟩,λ y c e => ?_,I.free,I.freeC,λ p hp => ?_,tracked ⟨oL,hoL,I.free⟩ hs,by simpa using I.len⟩ ⟨_,hs,.inl rfl⟩
    · exact (hs.2 b (Nat.ne_of_lt (Nat.lt_of_lt_of_le (Heap.lt_size e) I.ok.above))).trans (I.base.keep b o e n hb hx)
    · obtain ⟨sl,e1⟩ := I.base.slot b o e n hb hx
      exact ⟨sl,(hs.2 b (Nat.ne_of_lt (Nat.lt_of_lt_of_le (Heap.lt_size e) I.ok.above))).trans e1⟩
    · obtain ⟨o',e1⟩ := I.base.there b o e hx
      exact ⟨o',(hs.2 b (Nat.ne_of_lt (Nat.lt_of_lt_of_le (Heap.lt_size e) I.ok.above))).trans e1⟩
    · by_cases hj : j = i
      · subst hj
        rw [hi] at e1; cases e1
        rw [List.getElem?_set_self hiσ] at e2
        cases e2
        exact ⟨u,r,.inl ⟨hk,by simp⟩⟩
      · rw [List.getElem?_set_ne (Ne.symm hj)] at e2
        obtain ⟨u',r',q⟩ := hl j y v' e1 e2 e3
        refine ⟨u',r',?_⟩
        rcases q with ⟨k,e⟩ | ⟨k,c,e,z⟩
        · refine .inl ⟨k,?_⟩
          have : y ≠ x := λ e => hj (nodup_ix hN e1 (e ▸ hi))
          simp [this,e]
        · exact .inr ⟨k,c,e,z.sameBut hs (cne y c e)⟩
    · obtain ⟨w',z⟩ := I.cell y c e
      exact ⟨w',z.sameBut hs (cne y c e)⟩
    · obtain ⟨e,n,ne,nf,d⟩ := I.pin p hp
      exact ⟨(hs.2 p.1 ne).trans e,n,ne,nf,d⟩
  · have hfn : X.fn x = true := by
      rcases hf with z | z
      · exact z
      · rw [z] at hk; cases hk
    obtain ⟨c,hc⟩ := I.ok.has x (.inl hk)
    obtain ⟨w',z⟩ := I.cell x c hc
    refine wpAny_storeName_cell I.ok.kind hk hc z (λ h' hc' hs => ?_)
    obtain ⟨oc,hoc,hocd⟩ := id z
    refine h { s with heap := h' } ⟨I.ok,I.os,I.bare,⟨λ b o e n hb hx => ?_,λ b o e n hb hx => ?_,I.base.free,λ b o e hx => ?_,I.base.tups,I.base.frzs,I.base.tbls⟩,⟨m,hn.sameBut hs (Ne.symm (cne x c hc)),λ j y v' e1 e2 e3 => ?_⟩,λ y c' e => ?_,I.free,I.freeC,λ p hp => ?_,tracked ⟨oc,hoc,I.freeC x c hc⟩ hs,by simpa using I.len⟩ ⟨c,hs,.inr hc⟩
    · exact (hs.2 b (Nat.ne_of_lt (Nat.lt_of_lt_of_le (Heap.lt_size e) (I.ok.cab x c hfn hc)))).trans (I.base.keep b o e n hb hx)
    · obtain ⟨sl,e1⟩ := I.base.slot b o e n hb hx
      exact ⟨sl,(hs.2 b (Nat.ne_of_lt (Nat.lt_of_lt_of_le (Heap.lt_size e) (I.ok.cab x c hfn hc)))).trans e1⟩
    · obtain ⟨o',e1⟩ := I.base.there b o e hx
      exact ⟨o',(hs.2 b (Nat.ne_of_lt (Nat.lt_of_lt_of_le (Heap.lt_size e) (I.ok.cab x c hfn hc)))).trans e1⟩
    · by_cases hj : j = i
      · subst hj
        rw [hi] at e1; cases e1
        rw [List.getElem?_set_self hiσ] at e2
        cases e2
        exact ⟨u,r,.inr ⟨.inl hk,c,hc,hc'⟩⟩
      · rw [List.getElem?_set_ne (Ne.symm hj)] at e2
        obtain ⟨u',r',q⟩ := hl j y v' e1 e2 e3
        refine ⟨u',r',?_⟩
        rcases q with q | ⟨k,c',e,z'⟩
        · exact .inl q
        · refine .inr ⟨k,c',e,z'.sameBut hs ?_⟩
          rintro rfl
          exact hj (nodup_ix hN e1 (I.ok.inj _ _ _ e hc ▸ hi))
    · by_cases hcc : c' = c
      · subst hcc; exact ⟨_,hc'⟩
      · obtain ⟨w2,z2⟩ := I.cell y c' e
        exact ⟨w2,z2.sameBut hs hcc⟩
    · obtain ⟨e,n,ne,nf,d⟩ := I.pin p hp
      refine ⟨(hs.2 p.1 ?_).trans e,n,ne,nf,d⟩
      intro q
      rw [q,hoc] at e
      have q' : oc = p.2 := Option.some.inj e
      exact d w' (by rw [<- q']; exact hocd)
theorem store_ok {M : Model} {A : Around} {E : Value -> Shared -> Prop} {i : Nat} {x : Str} {v : V} {u : Value} {Q : Unit -> Shared -> Prop} (I : Inv X pins σ H s) (hN : X.N.Nodup) (hi : X.N[i]? = some x) (hx : Loc X.env.scope x) (r : RelV v u)
    (h : ∀ s',Inv X pins (σ.set i (some v)) H s' -> Q () s') (hf : X.fn x = true \/ X.env.scope.names.lookup x = some .local := by first | exact .inl rfl | exact .inr rfl | assumption) : wpAny M A (storeName X.env x u) Q E s :=
  store_ok2 I hN hi hx r (λ s' I' _ => h s' I') hf
theorem Inv.call' {s' : Shared} {ch : List Addr} (I : Inv X pins σ H s) (ho : s'.os = s.os) (u : Un (frs X.stack) ch H H' s.heap s'.heap) (hok : HOk X.prog X.w H' s'.heap) (hg : AllBare s'.gens)
    (hch : ∀ b ∈ ch,(b ∈ X.ex \/ X.s₀.heap.objs.size <= b) /\ b ≠ X.env.locals /\ (∀ x c,X.env.cells.lookup x = some c -> c ≠ b) /\ ∀ p ∈ X.pn ++ pins,p.1 ≠ b) : Inv X pins σ H' s' := by
  obtain ⟨h',g',d',t',o'⟩ := s'
  have e : o' = s.os := ho
  subst e
  exact I.call (g' := g') (t' := t') (d' := d') u hok hg hch
end
abbrev XK := Value -> Option Addr -> Hp -> Prop
abbrev St := List (Option V)
abbrev VK := V -> Hp -> Prop
abbrev TE := St -> Hp -> VK -> Prop
abbrev TT := St -> Hp -> (Bool -> Hp -> Prop) -> Prop
abbrev TA := St -> Hp -> (List V -> Hp -> Prop) -> Prop
structure Ends where
  nx : St -> Hp -> Prop
  rt : VK
  bk : St -> Hp -> Prop := λ _ _ => False
  ct : St -> Hp -> Prop := λ _ _ => False
abbrev TS := Ends -> St -> Hp -> Prop

def EP (X : Cx) (pins : List (Addr × Obj)) (σ : St) (Q : VK) (u : Value) (s' : Shared) : Prop := ∃ v H',Inv X pins σ H' s' /\ RelV v u /\ Q v H'
def TP (X : Cx) (pins : List (Addr × Obj)) (σ : St) (Q : Bool -> Hp -> Prop) (b : Bool) (s' : Shared) : Prop := ∃ H',Inv X pins σ H' s' /\ Q b H'
def AP (X : Cx) (pins : List (Addr × Obj)) (σ : St) (Q : List V -> Hp -> Prop) (us : List Value) (s' : Shared) : Prop := ∃ vs H',Inv X pins σ H' s' /\ Vals vs us /\ Q vs H'
def SP (X : Cx) (pins : List (Addr × Obj)) (D : Ends) (f : Flow) (s' : Shared) : Prop :=
  match f with
  | .next => ∃ σ' H',Inv X pins σ' H' s' /\ D.nx σ' H'
  | .brk => ∃ σ' H',Inv X pins σ' H' s' /\ D.bk σ' H'
  | .cont => ∃ σ' H',Inv X pins σ' H' s' /\ D.ct σ' H'
  | .ret u => ∃ v σ' H',Inv X pins σ' H' s' /\ RelV v u /\ D.rt v H'

def PE (X : Cx) (e : Expr) (t : TE) : Prop :=
  ∀ (pins : List (Addr × Obj)) (s : Shared) (σ : St) (H : Hp) (Q : VK),Inv X pins σ H s -> t σ H Q -> wpAny (model X.prog X.w) X.A (eval e X.env) (EP X pins σ Q) X.xe s
def PT (X : Cx) (e : Expr) (t : TT) : Prop :=
  ∀ (pins : List (Addr × Obj)) (s : Shared) (σ : St) (H : Hp) (Q : Bool -> Hp -> Prop),Inv X pins σ H s -> t σ H Q -> wpAny (model X.prog X.w) X.A (isTrue e X.env (eval e X.env)) (TP X pins σ Q) X.xe s
def PW (X : Cx) (e : Expr) (t : TT) : Prop :=
  ∀ (whole : Sem Value) (pins : List (Addr × Obj)) (s : Shared) (σ : St) (H : Hp) (Q : Bool -> Hp -> Prop),Inv X pins σ H s -> t σ H Q -> wpAny (model X.prog X.w) X.A (isTrue e X.env whole) (TP X pins σ Q) X.xe s
theorem PW.pt {X : Cx} {e : Expr} {t : TT} (h : PW X e t) : PT X e t := h _
def PA (X : Cx) (es : List Expr) (t : TA) : Prop :=
  ∀ (pos : Pos) (pins : List (Addr × Obj)) (s : Shared) (σ : St) (H : Hp) (Q : List V -> Hp -> Prop),Inv X pins σ H s -> t σ H Q -> wpAny (model X.prog X.w) X.A (spliced (backTo pos (starEach es X.env))) (AP X pins σ Q) X.xe s
def PS (X : Cx) (st : Stmt) (t : TS) : Prop :=
  ∀ (pins : List (Addr × Obj)) (s : Shared) (σ : St) (H : Hp) (D : Ends),Inv X pins σ H s -> t D σ H -> wpAny (model X.prog X.w) X.A (exec st X.env) (SP X pins D) X.xe s
def PSs (X : Cx) (st : List Stmt) (t : TS) : Prop :=
  ∀ (pins : List (Addr × Obj)) (s : Shared) (σ : St) (H : Hp) (D : Ends),Inv X pins σ H s -> t D σ H -> wpAny (model X.prog X.w) X.A (execs st X.env) (SP X pins D) X.xe s
theorem thn {α : Type} {t : Sem α} {Q Q' : α -> Shared -> Prop} {M : Model} {A : Around} {E : Value -> Shared -> Prop} {s : Shared} (h : wpAny M A t Q E s) (hQ : ∀ a s,Q a s -> Q' a s) : wpAny M A t Q' E s := wpAny_mono h hQ λ _ _ x => x
end L2
namespace L2
open PySem PySem.Spec PyProof.Rows
section
variable {X : Cx}
def tVar (i : Nat) : TE := λ σ H Q => ∃ v,σ[i]? = some (some v) /\ Q v H
def tC (v : V) : TE := λ _ H Q => Q v H
theorem pe_var {i : Nat} {x : Str} {pos : Pos} (hN : X.N[i]? = some x) (hv : Vis X.env.scope x) (hd : (x == ("__debug__" : Str)) = false := by decide) (hcd : (x == ("__classdict__" : Str)) = false := by decide) : PE X (.Name x pos) (tVar i) := by
  intro pins s σ H Q I h
  obtain ⟨v,e,h⟩ := h
  obtain ⟨m,hn,hl⟩ := I.loc
  obtain ⟨u,r,l⟩ := hl i x v hN e hv
  have fin : EP X pins σ Q u s := ⟨v,H,I,r,h⟩
  rcases l with ⟨hk,hm⟩ | ⟨hk,c,hc,hcell⟩
  · exact wpAny_Name (wpAny_loadName_local I.ok.kind hk hn hm fin) hd
  · rcases hk with hk | hk
    · exact wpAny_Name (wpAny_loadName_cell I.ok.kind hk hc hcell fin) hd
    · exact wpAny_Name (wpAny_loadName_free I.ok.kind hk hc hcell fin hcd) hd
theorem pe_int {i j pos} : PE X (.Constant (.int i) j pos) (tC (.int i)) := λ _ _ _ H _ I h => wpAny_Constant_int ⟨.int i,H,I.tok _,⟨_,rfl⟩,h⟩
theorem pe_bl {b j pos} : PE X (.Constant (.bool b) j pos) (tC (.bl b)) := λ _ _ _ H _ I h => Constant_bool ⟨.bl b,H,I,rfl,h⟩
theorem pe_non {j pos} : PE X (.Constant .none j pos) (tC .non) := λ _ _ _ H _ I h => Constant_none ⟨.non,H,I,rfl,h⟩
theorem pe_str {x j pos} : PE X (.Constant (.str x) j pos) (tC (.str x)) := λ _ _ _ H _ I h => Calls.Constant_str ⟨.str x,H,I.tok _,⟨_,rfl⟩,h⟩

def Gl (X : Cx) (x : Str) : Prop := X.env.kindOf x = some .globalImplicit
theorem ld_glob {E : Value -> Shared -> Prop} {pins : List (Addr × Obj)} {s : Shared} {σ : St} {H : Hp} {x : Str} {u : Value} {pos : Pos} {Q : Value -> Shared -> Prop} (I : Inv X pins σ H s) (hg : Gl X x) (hm : X.mg x = some u) (h : Q u s)
    (hd : (x == ("__debug__" : Str)) = false := by decide) : wpAny (model X.prog X.w) X.A (eval (.Name x pos) X.env) Q E s :=
  Calls.Name_function_global I.ok.kind hg (Calls.loadGlobal_global (by rw [I.ok.glob]; exact I.mod.glob.keeps I.bk) hm h) hd
theorem ld_blt {E : Value -> Shared -> Prop} {pins : List (Addr × Obj)} {s : Shared} {σ : St} {H : Hp} {x : Str} {u : Value} {pos : Pos} {Q : Value -> Shared -> Prop} (I : Inv X pins σ H s) (hg : Gl X x) (hm : X.mg x = none) (hv : bootBuiltins x = some u) (h : Q u s)
    (hn : x ≠ "__name__" := by decide) (hd : (x == ("__debug__" : Str)) = false := by decide) : wpAny (model X.prog X.w) X.A (eval (.Name x pos) X.env) Q E s := by
  obtain ⟨mb,h1,h2⟩ := I.mod.blt
  exact Calls.Name_function_global I.ok.kind hg (Calls.loadGlobal_builtin (by rw [I.ok.glob]; exact I.mod.glob.keeps I.bk) hm (by rw [I.ok.blt]; exact h1.keeps I.bk) ((h2 x hn).trans hv) h) hd
variable {a b : Expr} {ta tb : TE} {pos : Pos}
def PC (X : Cx) (op : CmpOp) (a b : Expr) (t : TE) : Prop :=
  ∀ (pins : List (Addr × Obj)) (s : Shared) (σ : St) (H : Hp) (Q : VK),Inv X pins σ H s -> t σ H Q ->
    wpAny (model X.prog X.w) X.A (eval a X.env) (λ v s₁ => wpAny (model X.prog X.w) X.A (eval b X.env) (λ u s₂ => wpAny (model X.prog X.w) X.A (compareOp op v u) (EP X pins σ Q) X.xe s₂) X.xe s₁) X.xe s
theorem nobehind (b : Expr) {op : CmpOp} (h : op ≠ .In) (h2 : op ≠ .NotIn) : behindInMarks op b = false := by
  have e1 : (op == CmpOp.In) = false := by cases op <;> first | rfl | exact absurd rfl h
  have e2 : (op == CmpOp.NotIn) = false := by cases op <;> first | rfl | exact absurd rfl h2
  cases b <;> simp [behindInMarks,e1,e2]
def tB (t : TE) : TT := λ σ H Q => t σ H λ x H1 => ∃ c,x = .bl c /\ Q c H1
theorem pe_cmp {op : CmpOp} {t : TE} (h : PC X op a b t) (h1 : behindInMarks op b = false := by first | exact nobehind _ (by decide) (by decide) | rfl) : PE X (.Compare a [op] [b] pos) t := λ pins s σ H Q I hw => wpAny_Compare1 (h pins s σ H Q I hw) h1
theorem pt_val {e : Expr} {t : TE} (h : PE X e t) (he : ∀ whole,isTrue e X.env whole = (do let v <- whole; standAt e.pos; holding [v] (truthy v)) := by intro _; rfl) : PT X e (tB t) := by
  intro pins s σ H Q I hw
  refine isTrue_plain (thn (h pins s σ H _ I hw) λ v s1 ⟨x,H1,I1,r1,q1⟩ => ?_) (he _)
  obtain ⟨d,rfl,q⟩ := q1
  cases r1
  exact wpAny_truthy_bool ⟨H1,I1,q⟩

variable {tA tB' : TT} {rest : List Expr}
def tAnd (t u : TT) : TT := λ σ H Q => t σ H λ c H1 => if c = true then u σ H1 Q else Q false H1
def tOr (t u : TT) : TT := λ σ H Q => t σ H λ c H1 => if c = true then Q true H1 else u σ H1 Q
def tNot (t : TT) : TT := λ σ H Q => t σ H λ c H1 => Q (!c) H1
theorem pw_and1 (ha : PT X a tA) : PW X (.BoolOp .And [a] pos) tA := by
  intro wh pins s σ H Q I h
  refine isTrue_and (thn (ha pins s σ H Q I h) λ c s1 e => ?_)
  cases c with
  | true => exact isTrue_and_nil e
  | false => exact e
theorem pw_or1 (ha : PT X a tA) : PW X (.BoolOp .Or [a] pos) tA := by
  intro wh pins s σ H Q I h
  refine isTrue_or (thn (ha pins s σ H Q I h) λ c s1 e => ?_)
  cases c with
  | false => exact isTrue_or_nil e
  | true => exact e
theorem pw_and (ha : PT X a tA) (hb : PW X (.BoolOp .And (b :: rest) pos) tB') : PW X (.BoolOp .And (a :: b :: rest) pos) (tAnd tA tB') := by
  intro wh pins s σ H Q I h
  refine isTrue_and (thn (ha pins s σ H _ I h) λ c s1 hq1 => ?_)
  obtain ⟨H1,I1,q1⟩ := hq1
  cases c with
  | true => exact hb wh pins s1 σ H1 Q I1 q1
  | false => exact ⟨H1,I1,q1⟩
theorem pw_or (ha : PT X a tA) (hb : PW X (.BoolOp .Or (b :: rest) pos) tB') : PW X (.BoolOp .Or (a :: b :: rest) pos) (tOr tA tB') := by
  intro wh pins s σ H Q I h
  refine isTrue_or (thn (ha pins s σ H _ I h) λ c s1 hq2 => ?_)
  obtain ⟨H1,I1,q1⟩ := hq2
  cases c with
  | true => exact ⟨H1,I1,q1⟩
  | false => exact hb wh pins s1 σ H1 Q I1 q1
theorem pt_not (ha : PT X a tA) : PT X (.UnaryOp .Not a pos) (tNot tA) := by
  intro pins s σ H Q I h
  exact isTrue_not (ha pins s σ H (λ c H1 => Q (!c) H1) I h)
def tAndV (ta tb : TE) : TE := λ σ H Q => ta σ H λ x H1 => ∃ c,x = .bl c /\ if c = true then tb σ H1 Q else Q (.bl false) H1
theorem pe_one {op} {t : TE} (h : PE X a t) : PE X (.BoolOp op [a] pos) t := λ pins s σ H Q I hw => BoolOp_one (h pins s σ H Q I hw)
theorem pe_and (ha : PE X a ta) (hb : PE X (.BoolOp .And (b :: rest) pos) tb) : PE X (.BoolOp .And (a :: b :: rest) pos) (tAndV ta tb) := by
  intro pins s σ H Q I h
  refine BoolOp_and (thn (ha pins s σ H _ I h) λ v s1 hq3 => ?_)
  obtain ⟨x,H1,I1,r1,q1⟩ := hq3
  obtain ⟨c,rfl,q1⟩ := q1
  cases r1
  refine wpAny_truthy_bool ?_
  cases c with
  | true => exact hb pins s1 σ H1 Q I1 q1
  | false => exact ⟨.bl false,H1,I1,rfl,q1⟩
end
end L2
namespace L2
open PySem PySem.Spec PyProof.Rows
def SqL (K : PySem.W.Frag) (H : Hp) (a : Addr) (xs : List V) : Prop :=
  Rd H a (.lst xs) \/
    ∃ (o : Obj) (its : Array Value) (n : Nat),K.lookup a = some o /\ o.cls = .type "list" /\ o.dict = none /\ o.data = .seq its n /\ its.size <= sizeLine /\ Vals xs its.toList
def SqT (K : PySem.W.Frag) (H : Hp) (a : Addr) (xs : List V) : Prop :=
  Rd H a (.tup xs) \/
    ∃ (o : Obj) (its : Array Value) (n : Nat),K.lookup a = some o /\ o.cls = .type "tuple" /\ o.data = .seq its n /\ its.size <= sizeLine /\ Vals xs its.toList
def absV : Value -> Option V
  | .none => some .non
  | .bool b => some (.bl b)
  | .int i _ => some (.int i)
  | .str x _ => some (.str x)
  | .bytes b _ => some (.byt b)
  | .float b _ => some (.flt b)
  | .ref a => some (.ref a)
  | .type n => some (.ty n)
  | _ => none
theorem RelV.abs {x : V} {u : Value} (r : RelV x u) : absV u = some x := by
  cases x with
  | non => cases r; rfl
  | bl _ => cases r; rfl
  | int _ => obtain ⟨t,rfl⟩ := r; rfl
  | str _ => obtain ⟨t,rfl⟩ := r; rfl
  | byt _ => obtain ⟨t,rfl⟩ := r; rfl
  | flt _ => obtain ⟨t,rfl⟩ := r; rfl
  | ref _ => cases r; rfl
  | ty _ => cases r; rfl
theorem RelV.inj {x y : V} {u : Value} (r : RelV x u) (q : RelV y u) : x = y := Option.some.inj (r.abs.symm.trans q.abs)
theorem Vals.inj : ∀ {xs ys : List V} {us : List Value},Vals xs us -> Vals ys us -> xs = ys
  | _,_,_,.nil,.nil => rfl
  | _,_,_,.cons r t,.cons r' t' => by rw [r.inj r',Vals.inj t t']
section
variable {X : Cx} {pins : List (Addr × Obj)} {σ : St} {H : Hp} {s : Shared} {a : Addr} {xs ys : List V}
theorem SqL.of {K : PySem.W.Frag} (h : H a = some (.lst xs)) : SqL K H a xs := .inl (.inl h)
theorem Inv.list (I : Inv X pins σ H s) (h : SqL X.K H a xs) : ∃ its : List Value,Vals xs its /\ PlainL s.heap a its.toArray /\ xs.length <= sizeLine := by
  rcases h with h | ⟨o,its,n,hk,hc,hd,hs,hz,r⟩
  · obtain ⟨z,its,n,r,e⟩ := h.ok I.hok
    exact ⟨its,r,⟨_,n,e,rfl,rfl,rfl⟩,z⟩
  · refine ⟨its.toList,r,⟨o,n,I.kIn a o hk,hc,hd,by simpa using hs⟩,?_⟩
    have e := r.length
    simp only [Array.length_toList] at e
    omega
theorem Inv.tuple (I : Inv X pins σ H s) (h : SqT X.K H a xs) : ∃ its : List Value,Vals xs its /\ IsTup s.heap a its.toArray /\ xs.length <= sizeLine := by
  rcases h with h | ⟨o,its,n,hk,hc,hs,hz,r⟩
  · obtain ⟨z,its,r,p⟩ := h.ok I.hok
    exact ⟨its,r,p,z⟩
  · refine ⟨its.toList,r,⟨o,I.kIn a o hk,hc,n,by simpa using hs⟩,?_⟩
    have e := r.length
    simp only [Array.length_toList] at e
    omega
theorem Inv.list_inj (I : Inv X pins σ H s) (h : SqL X.K H a xs) (h' : SqL X.K H a ys) : xs = ys := by
  obtain ⟨its,r,⟨o,n,e,_,_,d⟩,_⟩ := I.list h
  obtain ⟨its',r',⟨o',n',e',_,_,d'⟩,_⟩ := I.list h'
  rw [e] at e'; cases e'
  rw [d] at d'
  injection d' with d1 _
  have : its = its' := by simpa using congrArg Array.toList d1
  subst this
  exact r.inj r'
theorem Inv.tuple_inj (I : Inv X pins σ H s) (h : SqT X.K H a xs) (h' : SqT X.K H a ys) : xs = ys := by
  obtain ⟨its,r,⟨o,e,_,n,d⟩,_⟩ := I.tuple h
  obtain ⟨its',r',⟨o',e',_,n',d'⟩,_⟩ := I.tuple h'
  rw [e] at e'; cases e'
  rw [d] at d'
  injection d' with d1 _
  have : its = its' := by simpa using congrArg Array.toList d1
  subst this
  exact r.inj r'
end
abbrev Cx.wish (X : Cx) (E : Value -> Shared -> Prop) : Cx := { X with xe := E }
abbrev Cx.nox (X : Cx) : Cx := X.wish λ _ _ => False
theorem Cx.Ok.wish {X : Cx} (ok : X.Ok) (E : Value -> Shared -> Prop) : (X.wish E).Ok :=
  ⟨ok.mod,ok.kind,ok.glob,ok.blt,ok.above,ok.inj,ok.has,ok.cab,ok.hd,ok.frames,ok.stk,ok.exf,ok.bs,ok.bsz,ok.noex,ok.exfs,ok.funs,ok.frf⟩
theorem Cx.Ok.unwish {X : Cx} {E : Value -> Shared -> Prop} (ok : (X.wish E).Ok) : X.Ok :=
  ⟨ok.mod,ok.kind,ok.glob,ok.blt,ok.above,ok.inj,ok.has,ok.cab,ok.hd,ok.frames,ok.stk,ok.exf,ok.bs,ok.bsz,ok.noex,ok.exfs,ok.funs,ok.frf⟩
section
variable {X : Cx} {pins : List (Addr × Obj)} {σ : St} {H : Hp} {s : Shared} {E : Value -> Shared -> Prop}
theorem Inv.wish (I : Inv X pins σ H s) (E : Value -> Shared -> Prop) : Inv (X.wish E) pins σ H s := ⟨I.ok.wish E,I.os,I.bare,I.base,I.loc,I.cell,I.free,I.freeC,I.pin,I.hok,I.len⟩
theorem Inv.unwish (I : Inv (X.wish E) pins σ H s) : Inv X pins σ H s := ⟨I.ok.unwish,I.os,I.bare,I.base,I.loc,I.cell,I.free,I.freeC,I.pin,I.hok,I.len⟩
theorem SP.unwish {D : Ends} {f : Flow} {s' : Shared} (h : SP (X.wish E) pins D f s') : SP X pins D f s' := by
  cases f with
  | next => obtain ⟨σ',H',I,q⟩ := h; exact ⟨σ',H',I.unwish,q⟩
  | brk => obtain ⟨σ',H',I,q⟩ := h; exact ⟨σ',H',I.unwish,q⟩
  | cont => obtain ⟨σ',H',I,q⟩ := h; exact ⟨σ',H',I.unwish,q⟩
  | ret u => obtain ⟨v,σ',H',I,r,q⟩ := h; exact ⟨v,σ',H',I.unwish,r,q⟩
theorem PSs.nox {st : List Stmt} {t : TS} (h : PSs X.nox st t) : PSs X st t := λ pins s σ H D I hw =>
  wpAny_mono (h pins s σ H D (I.wish _) hw) (λ _ _ q => q.unwish) λ _ _ z => False.elim z
end
section
variable {X : Cx} {st : Stmt} {rest : List Stmt} {t u : TS} {e : Expr} {te : TE} {pos : Pos}
def tNext : TS := λ D σ H => D.nx σ H
def tSeq (t u : TS) : TS := λ D σ H => t { D with nx := u D } σ H
theorem pss_nil : PSs X [] tNext := λ _ _ σ H _ I h => wpAny_execs_nil ⟨σ,H,I,h⟩
theorem pss_cons (h1 : PS X st t) (h2 : PSs X rest u) : PSs X (st :: rest) (tSeq t u) := by
  intro pins s σ H D I h
  refine wpAny_execs_cons (thn (h1 pins s σ H { D with nx := u D } I h) λ f s1 q => ?_)
  cases f with
  | next =>
    obtain ⟨σ',H',I',q⟩ := q
    exact h2 pins s1 σ' H' D I' q
  | ret v => exact q
  | brk => exact q
  | cont => exact q
theorem pss_one (h1 : PS X st t) : PSs X [st] t := by
  intro pins s σ H D I h
  refine wpAny_execs_cons (thn (h1 pins s σ H D I h) λ f s1 q => ?_)
  cases f with
  | next => exact wpAny_execs_nil q
  | ret v => exact q
  | brk => exact q
  | cont => exact q
theorem Inv.quiet {pins : List (Addr × Obj)} {σ : St} {H : Hp} {s : Shared} (I : Inv X pins σ H s) : interactive X.env = false := by simp [interactive,I.ok.kind]
def tDrop (te : TE) : TS := λ D σ H => te σ H λ _ H1 => D.nx σ H1
theorem ps_expr (he : PE X e te) (hs : swapsWith e none pos.line X.env = pure false := by rfl) : PS X (.Expr e pos) (tDrop te) := by
  intro pins s σ H D I h
  exact wpAny_Expr_any (thn (he pins s σ H _ I h) λ v s1 ⟨x,H1,I1,r1,q1⟩ => ⟨σ,H1,I1,q1⟩) I.quiet hs
def tRet (te : TE) : TS := λ D σ H => te σ H D.rt
theorem ps_ret (he : PE X e te) : PS X (.Return (some e) pos) (tRet te) := by
  intro pins s σ H D I h
  exact wpAny_Return_some (thn (he pins s σ H _ I h) λ v s1 ⟨x,H1,I1,r1,q1⟩ => ⟨x,σ,H1,I1,r1,q1⟩)
def tIfS (c : TT) (t u : TS) : TS := λ D σ H => c σ H λ b H1 => if b = true then t D σ H1 else u D σ H1
theorem ps_if {c : Expr} {a b : List Stmt} {tc : TT} (hc : PT X c tc) (ha : PSs X a t) (hb : PSs X b u) : PS X (.If c a b pos) (tIfS tc t u) := by
  intro pins s σ H D I h
  refine wpAny_If (thn (hc pins s σ H _ I h) λ d s1 hq4 => ?_)
  obtain ⟨H1,I1,q1⟩ := hq4
  cases d with
  | true => exact ha pins s1 σ H1 D I1 q1
  | false => exact hb pins s1 σ H1 D I1 q1
end
abbrev TG := V -> St -> Hp -> (St -> Hp -> Prop) -> Prop
abbrev TGs := List V -> St -> Hp -> (St -> Hp -> Prop) -> Prop
def PG (X : Cx) (target : Expr) (t : TG) : Prop :=
  ∀ (pins : List (Addr × Obj)) (s : Shared) (σ : St) (H : Hp) (v : V) (u : Value) (Q : St -> Hp -> Prop),Inv X pins σ H s -> RelV v u -> t v σ H Q ->
    wpAny (model X.prog X.w) X.A (assign target X.env u) (λ _ s' => ∃ σ' H',Inv X pins σ' H' s' /\ Q σ' H') X.xe s
def PGs (X : Cx) (ts : List Expr) (t : TGs) : Prop :=
  ∀ (pins : List (Addr × Obj)) (s : Shared) (σ : St) (H : Hp) (vs : List V) (us : List Value) (Q : St -> Hp -> Prop),Inv X pins σ H s -> Vals vs us -> t vs σ H Q ->
    wpAny (model X.prog X.w) X.A (assignInOrder ((assignEach ts X.env).map (·.2)) us) (λ _ s' => ∃ σ' H',Inv X pins σ' H' s' /\ Q σ' H') X.xe s
abbrev TSet := V -> V -> V -> Hp -> (Hp -> Prop) -> Prop
def PSet (X : Cx) (t : TSet) : Prop :=
  ∀ (pins : List (Addr × Obj)) (s : Shared) (σ : St) (H : Hp) (o i v : V) (ov iv u : Value) (Q : Hp -> Prop),Inv X pins σ H s -> RelV o ov -> RelV i iv -> RelV v u -> t o i v H Q ->
    wpAny (model X.prog X.w) X.A (setItem ov iv u) (λ _ s' => ∃ H',Inv X pins σ H' s' /\ Q H') X.xe s
abbrev TIp := V -> V -> Hp -> VK -> Prop
def PIp (X : Cx) (op : Operator) (t : TIp) : Prop :=
  ∀ (pins : List (Addr × Obj)) (s : Shared) (σ : St) (H : Hp) (x y : V) (v u : Value) (Q : VK),Inv X pins σ H s -> RelV x v -> RelV y u -> t x y H Q ->
    wpAny (model X.prog X.w) X.A (inplaceOp op v u) (EP X pins σ Q) X.xe s
section
variable {X : Cx} {pos : Pos}
def gName (i : Nat) : TG := λ v σ H Q => Q (σ.set i (some v)) H
theorem pg_name {i : Nat} {x : Str} (hN : X.N.Nodup) (hi : X.N[i]? = some x) (hx : Loc X.env.scope x) (hf : X.fn x = true \/ X.env.scope.names.lookup x = some .local := by first | exact .inl rfl | exact .inr rfl | assumption) : PG X (.Name x pos) (gName i) := by
  intro pins s σ H v u Q I r h
  exact wpAny_assign_Name (store_ok I hN hi hx r (λ s' I' => ⟨_,H,I',h⟩) hf)
def gNil : TGs := λ vs σ H Q => vs = [] /\ Q σ H
def gCons (t : TG) (u : TGs) : TGs := λ vs σ H Q => ∃ v r,vs = v :: r /\ t v σ H λ σ' H' => u r σ' H' Q
theorem pgs_nil : PGs X [] gNil := by
  intro pins s σ H vs us Q I r h
  obtain ⟨e,h⟩ := h
  subst e
  cases r
  exact assignInOrder_nil ⟨σ,H,I,h⟩
theorem pgs_cons {e : Expr} {es : List Expr} {t : TG} {u : TGs} (h1 : PG X e t) (h2 : PGs X es u)
    (hs : (assignEach (e :: es) X.env).map (·.2) = assign e X.env :: (assignEach es X.env).map (·.2) := by rfl) : PGs X (e :: es) (gCons t u) := by
  intro pins s σ H vs us Q I r h
  obtain ⟨v,vr,e1,h⟩ := h
  subst e1
  cases r with
  | cons r rr =>
    rw [hs]
    refine assignInOrder_cons (thn (h1 pins s σ H _ _ _ I r h) λ _ s1 hq5 => ?_)
    obtain ⟨σ1,H1,I1,q1⟩ := hq5
    exact h2 pins s1 σ1 H1 _ _ Q I1 rr q1
def gTup (K : PySem.W.Frag) (n : Nat) (t : TGs) : TG := λ v σ H Q => ∃ a xs,v = .ref a /\ SqT K H a xs /\ xs.length = n /\ t xs σ H Q
theorem pg_tup {es : List Expr} {k : Nat} {t : TGs} {n : Nat} (hc : X.calm = true) (h : PGs X es t)
    (hn : (assignEach es X.env).length = n := by rfl) (hst : (assignEach es X.env).findIdx? (·.1) = none := by rfl) : PG X (.Tuple es k pos) (gTup X.K n t) := by
  intro pins s σ H v u Q I r hw
  obtain ⟨a,xs,e1,hq,hl,hw⟩ := hw
  subst e1
  cases r
  obtain ⟨its,rv,ht,hz⟩ := I.tuple hq
  refine assign_Tuple_tuple (I.ok.hd hc) ht (by simp [hn,<- hl,rv.length]) hst λ h' hx => ?_
  have I1 : Inv X pins σ H { s with heap := h' } := I.kept (t' := s.toks) λ b o e => hx b o (Nat.ne_of_lt (Heap.lt_size e)) e
  exact h pins _ σ H xs _ Q I1 (by simpa using rv) hw
def gSub (to ti : TE) (t : TSet) : TG := λ v σ H Q => to σ H λ o H1 => ti σ H1 λ i H2 => t o i v H2 λ H3 => Q σ H3
theorem pg_sub {o i : Expr} {to ti : TE} {t : TSet} (ho : PE X o to) (hi : PE X i ti) (hs : PSet X t)
    (ha : ∀ v,assign (.Subscript o i pos) X.env v = (do
      let ov <- holding [v] (eval o X.env)
      let iv <- holding [v,ov] (eval i X.env)
      standAt pos
      holding [v,ov,iv] (setItem ov iv v)
      release [v,ov,iv] []) := by intro _; rfl) : PG X (.Subscript o i pos) (gSub to ti t) := by
  intro pins s σ H v u Q I r h
  rw [ha]
  refine wpAny_bind (wpAny_holding (thn (ho pins s σ H _ I h) λ ov s1 hq6 => ?_))
  obtain ⟨x,H1,I1,r1,q1⟩ := hq6
  refine wpAny_bind (wpAny_holding (thn (hi pins s1 σ H1 _ I1 q1) λ iv s2 hq7 => ?_))
  obtain ⟨y,H2,I2,r2,q2⟩ := hq7
  refine wpAny_bind (wpAny_standAt (wpAny_bind (wpAny_holding (thn (hs pins s2 σ H2 x y v ov iv u _ I2 r1 r2 r q2) λ _ s3 hq8 => ?_))))
  obtain ⟨H3,I3,q3⟩ := hq8
  exact wpAny_release ⟨σ,H3,I3,q3⟩
def tAsg (te : TE) (g : TG) : TS := λ D σ H => te σ H λ x H1 => g x σ H1 D.nx
theorem ps_asg {tg e : Expr} {te : TE} {g : TG} (he : PE X e te) (hg : PG X tg g) (hs : swapsWithSole [tg] e pos.line X.env = pure false := by rfl) (hw : swappedStores [tg] e X.env = pure none := by rfl)
    (h1 : (assignEach [tg] X.env).map (·.2) = [assign tg X.env] := by rfl) : PS X (.Assign [tg] e pos) (tAsg te g) := by
  intro pins s σ H D I h
  refine wpAny_Assign_stores (thn (he pins s σ H _ I h) λ v s1 ⟨x,H1,I1,r1,q1⟩ => ?_) hs hw
  rw [h1]
  exact thn (hg pins s1 σ H1 x v _ I1 r1 q1) λ _ s2 q => q
theorem ps_set {i : Nat} {x : Str} {e : Expr} {te : TE} {pos' : Pos} (hN : X.N.Nodup) (hi : X.N[i]? = some x) (hx : Loc X.env.scope x) (he : PE X e te) (hs : swapsWith e (some (.Name x pos')) pos.line X.env = pure false := by rfl) (hf : X.fn x = true \/ X.env.scope.names.lookup x = some .local := by first | exact .inl rfl | exact .inr rfl | assumption) :
    PS X (.Assign [.Name x pos'] e pos) (tAsg te (gName i)) := by
  intro pins s σ H D I h
  refine wpAny_Assign_Name (thn (he pins s σ H _ I h) λ v s1 ⟨y,H1,I1,r1,q1⟩ => ?_) hs
  exact store_ok I1 hN hi hx r1 (λ s2 I2 => ⟨_,H1,I2,q1⟩) hf
def tPar (i j : Nat) (ta : TA) : TS := λ D σ H => ta σ H λ vs H1 => ∃ v w,vs = [v,w] /\ D.nx ((σ.set i (some v)).set j (some w)) H1
theorem ps_par {i j : Nat} {x y : Str} {a b : Expr} {ta : TA} {px py pt : Pos} {kt k2 pt2} (hc : X.calm = true) (hN : X.N.Nodup) (hi : X.N[i]? = some x) (hj : X.N[j]? = some y) (hij : i ≠ j)
    (hx : X.env.scope.names.lookup x = some .local) (hy : X.env.scope.names.lookup y = some .local) (ha : PA X [a,b] ta)
    (hw : swappedStores [.Tuple [.Name x px,.Name y py] kt pt] (.Tuple [a,b] k2 pt2) X.env = pure (some [x,y]))
    (hs : swapsWithSole [.Tuple [.Name x px,.Name y py] kt pt] (.Tuple [a,b] k2 pt2) pos.line X.env = pure false := by rfl) :
    PS X (.Assign [.Tuple [.Name x px,.Name y py] kt pt] (.Tuple [a,b] k2 pt2) pos) (tPar i j ta) := by
  intro pins s σ H D I h
  rw [exec_Assign_arm]
  refine wpAny_bind (wpAny_standAt ?_)
  rw [hs]
  refine wpAny_bind (wpAny_pure ?_)
  rw [if_neg (by decide)]
  refine wpAny_bind (Tuple_ (thn (ha _ pins s σ H _ I h) λ us s1 hq9 => ?_))
  obtain ⟨vs,H1,I1,r1,q1⟩ := hq9
  obtain ⟨v,w,e1,q1⟩ := q1
  subst e1
  obtain ⟨u1,u2,rfl,rv,rw'⟩ : ∃ u1 u2,us = [u1,u2] /\ RelV v u1 /\ RelV w u2 := by
    cases r1 with
    | cons p q =>
      cases q with
      | cons p' q' =>
        cases q'
        exact ⟨_,_,rfl,p,p'⟩
  refine wpAny_newObj_type ?_ (by show 2 <= sizeLine; decide)
  have I2 : Inv X pins σ H1 { s1 with heap := s1.heap.push { cls := .type "tuple",data := .seq [u1,u2].toArray } } := I1.kept (t' := s1.toks) λ b o e => Heap.get?_push_of_some _ e
  rw [hw]
  refine wpAny_bind (wpAny_pure ?_)
  show wpAny (model X.prog X.w) X.A (do rule "assign.swapped-stores"; let items <- unpackItems (.ref s1.heap.objs.size) 2 none; assignInOrder [λ v => bindName X.env y v,λ v => bindName X.env x v] items.reverse; pure Flow.next) _ _ _
  refine wpAny_bind (wpAny_rule (wpAny_bind (unpackItems_tuple (items := #[u1,u2]) (I.ok.hd hc) (IsTup.new s1.heap _) λ h' hx' => ?_)))
  have I3 := I2.kept (h' := h') (t' := s1.toks) λ b o e => hx' b o (Nat.ne_of_lt (Heap.lt_size e)) e
  show wpAny _ _ (assignInOrder [λ v => bindName X.env y v,λ v => bindName X.env x v] [u2,u1] >>= λ _ => pure Flow.next) _ _ _
  refine wpAny_bind (assignInOrder_cons (wpAny_bindName (store_ok I3 hN hj (.inl hy) rw' (λ s2 I4 => ?_) (.inr hy))))
  refine assignInOrder_cons (wpAny_bindName (store_ok I4 hN hi (.inl hx) rv (λ s3 I5 => assignInOrder_nil (wpAny_pure ?_)) (.inr hx)))
  rw [List.set_comm _ _ (Ne.symm hij)] at I5
  exact ⟨_,H1,I5,q1⟩
def tAugS (to ti te : TE) (tget : V -> V -> Hp -> VK -> Prop) (tip : TIp) (tset : TSet) : TS := λ D σ H => to σ H λ o H1 => ti σ H1 λ i H2 => tget o i H2 λ x H3 => te σ H3 λ y H4 => tip x y H4 λ z H5 => tset o i z H5 λ H6 => D.nx σ H6
def PGet (X : Cx) (t : V -> V -> Hp -> VK -> Prop) : Prop :=
  ∀ (pins : List (Addr × Obj)) (s : Shared) (σ : St) (H : Hp) (o i : V) (ov iv : Value) (Q : VK),Inv X pins σ H s -> RelV o ov -> RelV i iv -> t o i H Q ->
    wpAny (model X.prog X.w) X.A (getItem ov iv) (EP X pins σ Q) X.xe s
theorem ps_augS {o i e : Expr} {to ti te : TE} {tget : V -> V -> Hp -> VK -> Prop} {tip : TIp} {tset : TSet} {op : Operator} {tpos : Pos} (ho : PE X o to) (hi : PE X i ti) (hg : PGet X tget) (he : PE X e te) (hp : PIp X op tip) (hs : PSet X tset)
    (ha : ∀ ov iv new,augStore i ov iv new = (do holding [new,ov,iv] (setItem ov iv new); release [new,ov,iv] []; pure .next) := by intros; rfl) : PS X (.AugAssign (.Subscript o i tpos) op e pos) (tAugS to ti te tget tip tset) := by
  intro pins s σ H D I h
  refine wpAny_AugAssign_SubscriptAny (thn (ho pins s σ H _ I h) λ ov s1 ⟨x1,H1,I1,r1,q1⟩ => ?_) ha
  refine thn (hi pins s1 σ H1 _ I1 q1) λ iv s2 hq10 => ?_
  obtain ⟨x2,H2,I2,r2,q2⟩ := hq10
  refine thn (hg pins s2 σ H2 x1 x2 ov iv _ I2 r1 r2 q2) λ old s3 hq11 => ?_
  obtain ⟨x3,H3,I3,r3,q3⟩ := hq11
  refine thn (he pins s3 σ H3 _ I3 q3) λ v s4 hq12 => ?_
  obtain ⟨x4,H4,I4,r4,q4⟩ := hq12
  refine thn (hp pins s4 σ H4 x3 x4 old v _ I4 r3 r4 q4) λ new s5 hq13 => ?_
  obtain ⟨x5,H5,I5,r5,q5⟩ := hq13
  exact thn (hs pins s5 σ H5 x1 x2 x5 ov iv new _ I5 r1 r2 r5 q5) λ _ s6 ⟨H6,I6,q6⟩ => ⟨σ,H6,I6,q6⟩
def ipI (f : Int -> Int -> Int) : TIp := λ x y H Q => ∃ i j,x = .int i /\ y = .int j /\ Q (.int (f i j)) H
theorem ip_add : PIp X .Add (ipI λ i j => i + j) := by
  intro pins s σ H x y v u Q I r1 r2 h
  obtain ⟨i,j,e1,e2,q⟩ := h
  subst e1; subst e2
  obtain ⟨t,rfl⟩ := r1
  obtain ⟨t',rfl⟩ := r2
  exact iadd_int ⟨.int _,H,I.tok _,⟨_,rfl⟩,q⟩
end
section
variable {X : Cx} {pos : Pos}
end
structure It where
  go : Nat -> Hp -> Prop
  yld : Nat -> Hp -> V -> Hp -> Prop
  stop : Nat -> Hp -> Prop
def FpOk (X : Cx) (pins : List (Addr × Obj)) (H : Hp) (b : Addr) : Prop :=
  H b = none /\ b ≠ X.env.locals /\ b ∉ X.fs /\ (b ∈ X.ex \/ X.s₀.heap.objs.size <= b) /\ (∀ x c,X.env.cells.lookup x = some c -> c ≠ b) /\ ∀ p ∈ X.pn ++ pins,p.1 ≠ b
theorem Inv.fpOk {X : Cx} {pins : List (Addr × Obj)} {σ : St} {H H' : Hp} {s : Shared} {b : Addr} (I : Inv X pins σ H s) (hb : s.heap.objs.size <= b) (hn : H' b = none) : FpOk X pins H' b := by
  refine ⟨hn,Nat.ne_of_gt (Nat.lt_of_lt_of_le I.lt hb),I.nofs hb,.inr (Nat.le_trans I.sz hb),λ x c e z => ?_,λ p hp z => ?_⟩
  · obtain ⟨v,q⟩ := I.cell x c e
    exact absurd (Nat.lt_of_lt_of_le q.lt (by rw [z]; exact hb)) (Nat.lt_irrefl _)
  · exact absurd (Nat.lt_of_lt_of_le (Heap.lt_size (I.pin p hp).1) (by rw [z]; exact hb)) (Nat.lt_irrefl _)
structure Turn (P : Program) (w : World) (K : PySem.W.Frag) (tg : Expr) (J : It) (fp : List Addr) (it : Addr) (tn : Nat -> Heap -> Prop) : Prop where
  mem : it ∈ fp
  obj : ∀ i h,tn i h -> ∀ b ∈ fp,∃ o,h.get? b = some o /\ ∀ v,o.data ≠ .cell v
  keep : ∀ i h h',tn i h -> (∀ b ∈ fp,∀ o,h.get? b = some o -> h'.get? b = some o) -> tn i h'
  item : ∀ (X : Cx),X.prog = P -> X.w = w -> X.K = K -> X.calm = true -> ∀ (i : Nat) (pins : List (Addr × Obj)) (s : Shared) (σ : St) (H : Hp) (E : Value -> Shared -> Prop),Inv X pins σ H s -> (∀ b ∈ fp,FpOk X pins H b) -> tn i s.heap -> J.go i H ->
    wpAny (model P w) X.A (pyNext (.ref it)) (λ r s1 => ∃ u,r = some u /\
      wpAny (model P w) X.A (letOwnedTupleGo tg (.ref it) u) (λ _ s2 => ∃ x H',Inv X pins σ H' s2 /\ RelV x u /\ J.yld i H x H' /\ tn (i + 1) s2.heap /\ ∀ b ∈ fp,H' b = none) E s1) E s
  done : ∀ (X : Cx),X.prog = P -> X.w = w -> X.K = K -> X.calm = true -> ∀ (i : Nat) (pins : List (Addr × Obj)) (s : Shared) (σ : St) (H : Hp) (E : Value -> Shared -> Prop),Inv X pins σ H s -> (∀ b ∈ fp,FpOk X pins H b) -> tn i s.heap -> J.stop i H ->
    wpAny (model P w) X.A (pyNext (.ref it)) (λ r s1 => r = none /\ Inv X pins σ H s1) E s
  self : ∀ (A : Around) (i : Nat) (s : Shared) (Q : Value -> Shared -> Prop) (E : Value -> Shared -> Prop),tn i s.heap -> Q (.ref it) s -> wpAny (model P w) A (pyIter (.ref it)) Q E s
abbrev TI := St -> Hp -> (It -> Hp -> Prop) -> Prop
def PIE (X : Cx) (pins : List (Addr × Obj)) (σ : St) (tg : Expr) (R : It -> Hp -> Prop) (itv : Value) (s2 : Shared) : Prop :=
  ∃ (it : Addr) (fp : List Addr) (tn : Nat -> Heap -> Prop) (J : It) (H' : Hp),itv = .ref it /\ Inv X pins σ H' s2 /\ Turn X.prog X.w X.K tg J fp it tn /\ tn 0 s2.heap /\ (∀ b ∈ fp,FpOk X pins H' b) /\ R J H'
def PI (X : Cx) (tg iter : Expr) (wi : TI) : Prop :=
  ∀ (pins : List (Addr × Obj)) (s : Shared) (σ : St) (H : Hp) (R : It -> Hp -> Prop),Inv X pins σ H s -> wi σ H R ->
    wpAny (model X.prog X.w) X.A (eval iter X.env) (λ v s1 => wpAny (model X.prog X.w) X.A (pyIter v) (PIE X pins σ tg R) X.xe s1) X.xe s

theorem go_of {M : Model} {A : Around} {E : Value -> Shared -> Prop} {s : Shared} {tg : Expr} {it : Addr} {u : Value} {o : Obj} {n : String} {vs : Array Value} {Q : Unit -> Shared -> Prop} (ho : s.heap.get? it = some o) (hc : o.cls = .type n) (hd : o.data = .fields vs)
    (hn : ["enumerate", "zip", "dict_itemiterator", "dict_reverseitemiterator", "odict_iterator", "itertools.zip_longest", "itertools.pairwise"].contains n = false) (hQ : Q () s) : wpAny M A (letOwnedTupleGo tg (.ref it) u) Q E s := by
  unfold letOwnedTupleGo
  cases tg <;> first
    | exact wpAny_pure hQ
    | (cases u <;> first
        | exact wpAny_pure hQ
        | (refine wpAny_bind (wpAny_load ho ?_)
           rw [hc,hd]
           show wpAny M A (if (["enumerate", "zip", "dict_itemiterator", "dict_reverseitemiterator", "odict_iterator", "itertools.zip_longest", "itertools.pairwise"].contains n && vs[0]? == some (rawInt _)) = true then _ else _) Q E s
           rw [if_neg (by intro h; rw [hn,Bool.false_and] at h; cases h)]
           exact wpAny_pure hQ))

def Itl (K : PySem.W.Frag) (a : Addr) : It :=
  ⟨λ i H => ∃ xs x,SqL K H a xs /\ xs[i]? = some x,λ i H x H' => H' = H /\ ∀ xs,SqL K H a xs -> xs[i]? = some x,λ i H => ∃ xs,SqL K H a xs /\ xs.length <= i⟩
def Itt (K : PySem.W.Frag) (a : Addr) : It :=
  ⟨λ i H => ∃ xs x,SqT K H a xs /\ xs[i]? = some x,λ i H x H' => H' = H /\ ∀ xs,SqT K H a xs -> xs[i]? = some x,λ i H => ∃ xs,SqT K H a xs /\ xs.length <= i⟩
def Itr (lo : Int) (n : Nat) : It := ⟨λ i _ => i < n,λ i H x H' => H' = H /\ x = .int (lo + i),λ i _ => n <= i⟩
theorem turn_list {P : Program} {w : World} {K : PySem.W.Frag} {tg : Expr} (a it : Addr) : Turn P w K tg (Itl K a) [it] it (λ i h => h.IsListIter it a i) where
  mem := by simp
  obj := λ i h st b hb => by
    have e : b = it := by simpa using hb
    subst e
    obtain ⟨o,e,c,d⟩ := st
    exact ⟨o,e,λ v z => by rw [d] at z; cases z⟩
  keep := λ i h h' st k => st.at λ o e => k it (by simp) o e
  item := by
    intro X hP hw hK hc i pins s σ H E I hf st hg
    subst hP hw hK
    obtain ⟨xs,x,hq,hx⟩ := hg
    obtain ⟨its,rv,p,hz⟩ := I.list hq
    obtain ⟨u,hu,ru⟩ := rv.get hx
    obtain ⟨f0,f1,f2,f3,f4,f5⟩ := hf it (by simp)
    refine wpAny_pyNext_list_item st p.isList (x := u) (by simpa using hu) λ h' st' sb => ?_
    have I1 : Inv X pins σ H { s with heap := h' } := I.turned (t' := s.toks) (λ b o hb e => (sb.2 b hb).trans e) f0 f1 f3 f4 f5
    obtain ⟨o,e,c,d⟩ := id st'
    exact ⟨u,rfl,go_of (s := { s with heap := h' }) e c d (by decide) ⟨x,H,I1,ru,⟨rfl,λ ys hy => by rw [I.list_inj hy hq]; exact hx⟩,st',λ b hb => (hf b hb).1⟩⟩
  done := by
    intro X hP hw hK hc i pins s σ H E I hf st hg
    subst hP hw hK
    obtain ⟨xs,hq,hx⟩ := hg
    obtain ⟨its,rv,p,hz⟩ := I.list hq
    obtain ⟨f0,f1,f2,f3,f4,f5⟩ := hf it (by simp)
    have hl := rv.length
    exact wpAny_pyNext_list_end (I.ok.hd hc) st p.isList (by simp; omega) λ h' eb => ⟨rfl,I.turned (t' := s.toks) (λ b o hb e => eb b o hb e) f0 f1 f3 f4 f5⟩
  self := λ _ _ _ _ _ st h => wpAny_pyIter_listiter st h
theorem turn_tuple {P : Program} {w : World} {K : PySem.W.Frag} {tg : Expr} (a it : Addr) : Turn P w K tg (Itt K a) [it] it (λ i h => h.IsTupleIter it a i) where
  mem := by simp
  obj := λ i h st b hb => by
    have e : b = it := by simpa using hb
    subst e
    obtain ⟨o,e,c,d⟩ := st
    exact ⟨o,e,λ v z => by rw [d] at z; cases z⟩
  keep := λ i h h' st k => st.at λ o e => k it (by simp) o e
  item := by
    intro X hP hw hK hc i pins s σ H E I hf st hg
    subst hP hw hK
    obtain ⟨xs,x,hq,hx⟩ := hg
    obtain ⟨its,rv,p,hz⟩ := I.tuple hq
    obtain ⟨u,hu,ru⟩ := rv.get hx
    obtain ⟨f0,f1,f2,f3,f4,f5⟩ := hf it (by simp)
    refine wpAny_pyNext_tuple_item st (show s.heap.IsTuple a its.toArray from p) (x := u) (by simpa using hu) λ h' st' sb => ?_
    have I1 : Inv X pins σ H { s with heap := h' } := I.turned (t' := s.toks) (λ b o hb e => (sb.2 b hb).trans e) f0 f1 f3 f4 f5
    obtain ⟨o,e,c,d⟩ := id st'
    exact ⟨u,rfl,go_of (s := { s with heap := h' }) e c d (by decide) ⟨x,H,I1,ru,⟨rfl,λ ys hy => by rw [I.tuple_inj hy hq]; exact hx⟩,st',λ b hb => (hf b hb).1⟩⟩
  done := by
    intro X hP hw hK hc i pins s σ H E I hf st hg
    subst hP hw hK
    obtain ⟨xs,hq,hx⟩ := hg
    obtain ⟨its,rv,p,hz⟩ := I.tuple hq
    obtain ⟨f0,f1,f2,f3,f4,f5⟩ := hf it (by simp)
    have hl := rv.length
    exact wpAny_pyNext_tuple_end (I.ok.hd hc) st (show s.heap.IsTuple a its.toArray from p) (by simp; omega) λ h' eb => ⟨rfl,I.turned (t' := s.toks) (λ b o hb e => eb b o hb e) f0 f1 f3 f4 f5⟩
  self := λ _ _ _ _ _ st h => wpAny_pyIter_tupleiter st h
theorem turn_range {P : Program} {w : World} {K : PySem.W.Frag} {tg : Expr} (it : Addr) (lo : Int) (n : Nat) : Turn P w K tg (Itr lo n) [it] it (λ i h => IsRangeIter h it (lo + (i : Nat) * 1) ((n : Int) - (i : Nat)) 1) where
  mem := by simp
  obj := λ i h st b hb => by
    have e : b = it := by simpa using hb
    subst e
    exact ⟨_,st,λ v z => by
      have z' : Data.fields _ = Data.cell v := z
      cases z'⟩
  keep := λ i h h' st k => k it (by simp) _ st
  item := by
    intro X hP hw hK hc i pins s σ H E I hf st hg
    subst hP hw hK
    obtain ⟨f0,f1,f2,f3,f4,f5⟩ := hf it (by simp)
    have W := Walks.range (prog := X.prog) (w := X.w) (I.ok.hd hc) it lo 1 n
    refine W.item i s _ _ hg st λ v h' tk hv st' kk => ?_
    obtain ⟨t,rfl⟩ := hv
    have I1 : Inv X pins σ H { s with heap := h',toks := tk } := I.turned (λ b o hb e => kk b o (by simpa using hb) e) f0 f1 f3 f4 f5
    refine ⟨_,rfl,go_of (s := { s with heap := h',toks := tk }) (n := "range_iterator") st' rfl rfl (by decide) ⟨.int (lo + i),H,I1,⟨t,?_⟩,⟨rfl,rfl⟩,st',λ b hb => (hf b hb).1⟩⟩
    rw [Int.mul_one]
  done := by
    intro X hP hw hK hc i pins s σ H E I hf st hg
    subst hP hw hK
    obtain ⟨f0,f1,f2,f3,f4,f5⟩ := hf it (by simp)
    exact wpAny_pyNext_range_end (I.ok.hd hc) st (by have : n <= i := hg; omega) λ h' eb => ⟨rfl,I.turned (t' := s.toks) (λ b o hb e => eb b o hb e) f0 f1 f3 f4 f5⟩
  self := λ _ _ _ _ _ st h => wpAny_pyIter_rangeiter st h
end L2
namespace L2
open PySem PySem.Spec PyProof.Rows
section
variable {X : Cx} {tg : Expr}
theorem range_it {pins : List (Addr × Obj)} {σ : St} {H : Hp} {s : Shared} {R : It -> Hp -> Prop} {E : Value -> Shared -> Prop} {lo hi : Int} {t u v : Tok} {tk : Nat} (I : Inv X pins σ H s) (h1 : -(2 ^ 62) <= lo) (h2 : lo < 2 ^ 62) (h3 : -(2 ^ 62) <= hi) (h4 : hi < 2 ^ 62)
    (q : R (Itr lo (hi - lo).toNat) H) : wpAny (model X.prog X.w) X.A (pyIter (.ref s.heap.objs.size)) (PIE X pins σ tg R) E { s with heap := s.heap.push { cls := .type "range",data := .fields #[.int lo t,.int hi u,.int 1 v] },toks := tk } := by
  refine wpAny_pyIter_range (IsRange.new ..) (small_one h1 h2 h3 h4) ?_
  have I1 : Inv X pins σ H { s with heap := s.heap.push { cls := .type "range",data := .fields #[.int lo t,.int hi u,.int 1 v] },toks := tk } := I.kept λ b o e => Heap.get?_push_of_some _ e
  refine ⟨(s.heap.push { cls := .type "range",data := .fields #[.int lo t,.int hi u,.int 1 v] }).objs.size,[(s.heap.push { cls := .type "range",data := .fields #[.int lo t,.int hi u,.int 1 v] }).objs.size],_,_,H,rfl,
    I1.kept (t' := tk) λ b o e => Heap.get?_push_of_some _ e,turn_range _ lo (hi - lo).toNat,?_,λ b hb => ?_,q⟩
  · have e1 : lo + ((0 : Nat) : Int) * 1 = lo := by simp
    have e2 : (((hi - lo).toNat : Nat) : Int) - ((0 : Nat) : Int) = Builtin.Range.rangeSize lo hi 1 := by rw [rangeSize_one]; split <;> omega
    show IsRangeIter _ _ (lo + ((0 : Nat) : Int) * 1) ((((hi - lo).toNat : Nat) : Int) - ((0 : Nat) : Int)) 1
    rw [e1,e2]
    exact Heap.get?_push_size _ rfl
  · have e : b = (s.heap.push { cls := .type "range",data := .fields #[.int lo t,.int hi u,.int 1 v] }).objs.size := by simpa using hb
    subst e
    exact I1.fpOk (Nat.le_refl _) (I1.hok.fresh (Nat.le_refl _))
def iRng1 (ta : TA) : TI := λ σ H R => ta σ H λ vs H1 => ∃ j : Int,vs = [.int j] /\ -(2 ^ 62) <= j /\ j < 2 ^ 62 /\ R (Itr 0 j.toNat) H1
def iRng2 (ta : TA) : TI := λ σ H R => ta σ H λ vs H1 => ∃ i j : Int,vs = [.int i,.int j] /\ (-(2 ^ 62) <= i /\ i < 2 ^ 62 /\ -(2 ^ 62) <= j /\ j < 2 ^ 62) /\ R (Itr i (j - i).toNat) H1
theorem pi_range1 {a : Expr} {ta : TA} {p pos : Pos} (hg : Gl X "range") (hm : X.mg "range" = none) (ha : PA X [a] ta) (hs : starEach [a] X.env = [(false,eval a X.env)] := by rfl) : PI X tg (.Call (.Name "range" p) [a] [] pos) (iRng1 ta) := by
  intro pins s σ H R I h
  refine Call_ (ld_blt I hg hm boot_range (PyProof.Rows.callWith_type1 (thn (ha pos pins s σ H _ I h) λ us s1 ⟨vs,H1,I1,r1,q1⟩ => ?_) hs rfl))
  obtain ⟨j,e,q1,q2,q⟩ := q1
  subst e
  cases r1 with
  | cons r rr =>
    cases rr
    obtain ⟨t,rfl⟩ := r
    exact call_range_1 (range_it I1 (by omega) (by omega) q1 q2 (by simpa using q))
theorem pi_range2 {a b : Expr} {ta : TA} {p pos : Pos} (hg : Gl X "range") (hm : X.mg "range" = none) (ha : PA X [a,b] ta) (hs : starEach [a,b] X.env = [(false,eval a X.env),(false,eval b X.env)] := by rfl) (hs2 : starEach [b] X.env = [(false,eval b X.env)] := by rfl) :
    PI X tg (.Call (.Name "range" p) [a,b] [] pos) (iRng2 ta) := by
  intro pins s σ H R I h
  refine Call_ (ld_blt I hg hm boot_range (PyProof.Rows.callWith_type1 (thn (ha pos pins s σ H _ I h) λ us s1 ⟨vs,H1,I1,r1,q1⟩ => ?_) (by rw [hs,hs2]) (by rw [hs2]; rfl)))
  obtain ⟨i,j,e,⟨q1,q2,q3,q4⟩,q⟩ := q1
  subst e
  cases r1 with
  | cons r rr =>
    cases rr with
    | cons r' rr =>
      cases rr
      obtain ⟨t,rfl⟩ := r
      obtain ⟨t',rfl⟩ := r'
      exact call_range_2 (range_it I1 q1 q2 q3 q4 q)

def tFor (wi : TI) (g : TG) (tb : TS) : TS := λ D σ H => wi σ H λ J H1 => ∃ W : Nat -> Nat -> St -> Hp -> Prop,(∃ m,W 0 m σ H1) /\ ∀ i m σ H,W i m σ H ->
  (J.stop i H /\ D.nx σ H) \/ (J.go i H /\ ∃ N : St -> Hp -> Prop,(∀ σ' H',N σ' H' -> ∃ m',m' < m /\ W (i + 1) m' σ' H') /\ ∀ x H',J.yld i H x H' -> g x σ H' λ σ2 H2 => tb { D with nx := N,ct := N,bk := D.nx } σ2 H2)
def pinsAt (fp : List Addr) (h : Heap) : List (Addr × Obj) := fp.filterMap λ b => (h.get? b).map λ o => (b,o)
theorem mem_pinsAt {fp : List Addr} {h : Heap} {b : Addr} {o : Obj} (hb : b ∈ fp) (e : h.get? b = some o) : (b,o) ∈ pinsAt fp h := List.mem_filterMap.mpr ⟨b,hb,by rw [e]; rfl⟩
theorem of_pinsAt {fp : List Addr} {h : Heap} {p : Addr × Obj} (hp : p ∈ pinsAt fp h) : p.1 ∈ fp /\ h.get? p.1 = some p.2 := by
  obtain ⟨b,hb,e⟩ := List.mem_filterMap.mp hp
  cases q : h.get? b with
  | none => rw [q] at e; cases e
  | some o =>
    rw [q] at e
    have e' : (b,o) = p := Option.some.inj e
    subst e'
    exact ⟨hb,q⟩
theorem Inv.pinned {pins : List (Addr × Obj)} {σ : St} {H : Hp} {s : Shared} {fp : List Addr} (I : Inv X pins σ H s) (hf : ∀ b ∈ fp,FpOk X pins H b) (ho : ∀ b ∈ fp,∃ o,s.heap.get? b = some o /\ ∀ v,o.data ≠ .cell v) : Inv X (pins ++ pinsAt fp s.heap) σ H s :=
  I.pins_of λ p hp => (List.mem_append.mp hp).elim (λ z => I.pin p (List.mem_append_right _ z)) λ z => by
    obtain ⟨hb,e⟩ := of_pinsAt z
    obtain ⟨f0,f1,f2,_⟩ := hf p.1 hb
    obtain ⟨o,e',d⟩ := ho p.1 hb
    rw [e] at e'; cases e'
    exact ⟨e,f0,f1,f2,d⟩
theorem Inv.unpinned {pins pl : List (Addr × Obj)} {σ : St} {H : Hp} {s : Shared} (I : Inv X (pins ++ pl) σ H s) : Inv X pins σ H s := I.pins_of λ p hp => I.pin p (List.mem_append_right _ (List.mem_append_left _ hp))
theorem ps_for {iter : Expr} {body : List Stmt} {wi : TI} {g : TG} {tb : TS} {pos : Pos} (hp : PassesOwn (model X.prog X.w) X.A X.env X.xe) (hc : X.calm = true) (hi : PI X tg iter wi) (hg : PG X tg g) (hb : PSs X body tb)
    (hs : ∀ x,foldedSetIterable iter X.env x = pure x := by intro _; rfl) : PS X (.For tg iter body [] pos) (tFor wi g tb) := by
  intro pins s σ H D I h
  refine wpAny_For (thn (hi pins s σ H _ I h) λ v s1 h1 => thn h1 λ itv s2 h2 => ?_) hs
  obtain ⟨it,fp,tn,J,H2,e,I2,T,st2,f2,W,⟨m0,w0⟩,turn⟩ := h2
  subst e
  -- what stays true of the iterator's objects through the loop
  have stat : ∀ {H' : Hp},(∀ b ∈ fp,H' b = none) -> ∀ b ∈ fp,FpOk X pins H' b := λ hn b hb => ⟨hn b hb,(f2 b hb).2⟩
  refine codeAny_forLoop_any (λ n s' => ∃ i σ' H',Inv X pins σ' H' s' /\ tn i s'.heap /\ (∀ b ∈ fp,H' b = none) /\ W i n σ' H') ?_ m0 ⟨0,σ,H2,I2,st2,λ b hb => (f2 b hb).1,w0⟩
  rintro n s3 ⟨i,σ3,H3,I3,st3,fr3,w3⟩
  rcases turn i n σ3 H3 w3 with ⟨stop,qn⟩ | ⟨go,N,hN,step⟩
  · refine wpAny_passesOwn hp (thn (T.done X rfl rfl rfl hc i pins s3 σ3 H3 X.xe I3 (stat fr3) st3 stop) λ r s4 ⟨hr,I4⟩ => ?_)
    subst hr
    exact wpAny_execs_nil ⟨σ3,H3,I4,qn⟩
  · refine wpAny_passesOwn hp (thn (T.item X rfl rfl rfl hc i pins s3 σ3 H3 X.xe I3 (stat fr3) st3 go) λ r s4 ⟨u,hr,h4⟩ => ?_)
    subst hr
    refine wpAny_passesOwn hp (thn h4 λ _ s5 hq14 => ?_)
    obtain ⟨x,H5,I5,r5,y5,st5,fr5⟩ := hq14
    have I5' := I5.pinned (stat fr5) (T.obj _ _ st5)
    refine wpAny_passesOwn hp (thn (hg _ s5 σ3 H5 x u _ I5' r5 (step x H5 y5)) λ _ s6 hq15 => ?_)
    obtain ⟨σ6,H6,I6,q6⟩ := hq15
    refine wpAny_passesOwn hp (thn (hb _ s6 σ6 H6 _ I6 q6) λ f s7 q7 => ?_)
    have again : ∀ {σ7 : St} {H7 : Hp},Inv X (pins ++ pinsAt fp s5.heap) σ7 H7 s7 -> N σ7 H7 -> ∃ m,m < n /\ ∃ i σ' H',Inv X pins σ' H' s7 /\ tn i s7.heap /\ (∀ b ∈ fp,H' b = none) /\ W i m σ' H' := λ {σ7 H7} I7 n7 => by
      obtain ⟨m',hm,w7⟩ := hN σ7 H7 n7
      refine ⟨m',hm,i + 1,σ7,H7,I7.unpinned,T.keep _ _ _ st5 λ b hb o e => (I7.pin (b,o) (List.mem_append_right _ (List.mem_append_right _ (mem_pinsAt hb e)))).1,λ b hb => ?_,w7⟩
      obtain ⟨o,e,d⟩ := T.obj _ _ st5 b hb
      exact (I7.pin (b,o) (List.mem_append_right _ (List.mem_append_right _ (mem_pinsAt hb e)))).2.1
    cases f with
    | next => obtain ⟨σ7,H7,I7,n7⟩ := q7; exact again I7 n7
    | cont => obtain ⟨σ7,H7,I7,n7⟩ := q7; exact again I7 n7
    | brk => obtain ⟨σ7,H7,I7,q7⟩ := q7; exact ⟨σ7,H7,I7.unpinned,q7⟩
    | ret v => obtain ⟨x7,σ7,H7,I7,r7,q7⟩ := q7; exact ⟨x7,σ7,H7,I7.unpinned,r7,q7⟩
end
end L2
namespace L2
open PySem PySem.Spec PyProof.Rows
abbrev R2 := V -> V -> Hp -> VK -> Prop
def OpR (X : Cx) (f : Value -> Value -> Sem Value) (r : R2) : Prop :=
  ∀ (pins : List (Addr × Obj)) (s : Shared) (σ : St) (H : Hp) (x y : V) (v u : Value) (Q : VK),Inv X pins σ H s -> RelV x v -> RelV y u -> r x y H Q ->
    wpAny (model X.prog X.w) X.A (f v u) (EP X pins σ Q) X.xe s
def UnR (X : Cx) (f : Value -> Sem Value) (r : V -> Hp -> VK -> Prop) : Prop :=
  ∀ (pins : List (Addr × Obj)) (s : Shared) (σ : St) (H : Hp) (x : V) (v : Value) (Q : VK),Inv X pins σ H s -> RelV x v -> r x H Q ->
    wpAny (model X.prog X.w) X.A (f v) (EP X pins σ Q) X.xe s
def CallR (X : Cx) (f : Value) (r : List V -> Hp -> VK -> Prop) : Prop :=
  ∀ (pins : List (Addr × Obj)) (s : Shared) (σ : St) (H : Hp) (xs : List V) (us : List Value) (Q : VK),Inv X pins σ H s -> Vals xs us -> r xs H Q ->
    wpAny (model X.prog X.w) X.A (call f us) (EP X pins σ Q) X.xe s
def tOp (r : R2) (ta tb : TE) : TE := λ σ H Q => ta σ H λ x H1 => tb σ H1 λ y H2 => r x y H2 Q
def tUn (r : V -> Hp -> VK -> Prop) (ta : TE) : TE := λ σ H Q => ta σ H λ x H1 => r x H1 Q
def rI (C : Int -> Int -> Prop) (g : Int -> Int -> V) : R2 := λ x y H Q => ∃ i j,x = .int i /\ y = .int j /\ C i j /\ Q (g i j) H
def rI0 (g : Int -> Int -> V) : R2 := λ x y H Q => ∃ i j,x = .int i /\ y = .int j /\ Q (g i j) H
def rU (g : Int -> V) : V -> Hp -> VK -> Prop := λ x H Q => ∃ i,x = .int i /\ Q (g i) H

section
variable {X : Cx} {a b c : Expr} {ta tb tc : TE} {pos : Pos}
theorem binT (ha : PE X a ta) (hb : PE X b tb) {pins : List (Addr × Obj)} {s : Shared} {σ : St} {H : Hp} {R : V -> V -> Hp -> Prop} (I : Inv X pins σ H s)
    (h : ta σ H λ x H1 => tb σ H1 λ y H2 => R x y H2) {Q : Value -> Shared -> Prop} {f : Value -> Value -> Sem Value}
    (hf : ∀ v u s2 x y H2,Inv X pins σ H2 s2 -> RelV x v -> RelV y u -> R x y H2 -> wpAny (model X.prog X.w) X.A (f v u) Q X.xe s2) :
    wpAny (model X.prog X.w) X.A (eval a X.env) (λ v s₁ => wpAny (model X.prog X.w) X.A (eval b X.env) (λ u s₂ => wpAny (model X.prog X.w) X.A (f v u) Q X.xe s₂) X.xe s₁) X.xe s := by
  refine thn (ha pins s σ H _ I h) λ v s1 hq16 => ?_
  obtain ⟨x,H1,I1,r1,q1⟩ := hq16
  refine thn (hb pins s1 σ H1 _ I1 q1) λ u s2 hq17 => ?_
  obtain ⟨y,H2,I2,r2,q2⟩ := hq17
  exact hf v u s2 x y H2 I2 r1 r2 q2

theorem pe_op {op : Operator} {r : R2} (ho : OpR X (binaryOp op) r) (ha : PE X a ta) (hb : PE X b tb) : PE X (.BinOp a op b pos) (tOp r ta tb) := by
  intro pins s σ H Q I h
  exact wpAny_BinOp (binT ha hb I h λ v u s2 x y H2 I2 rx ry q => ho pins s2 σ H2 x y v u Q I2 rx ry q)
theorem pe_un {op : UnaryOp} {r : V -> Hp -> VK -> Prop} (ho : UnR X (unaryOp op) r) (ha : PE X a ta) : PE X (.UnaryOp op a pos) (tUn r ta) := by
  intro pins s σ H Q I h
  exact UnaryOp_ (thn (ha pins s σ H _ I h) λ v s1 ⟨x,H1,I1,r1,q1⟩ => ho pins s1 σ H1 x v Q I1 r1 q1)
theorem opI {f : Value -> Value -> Sem Value} {C : Int -> Int -> Prop} {g : Int -> Int -> Int}
    (rule : ∀ (i j : Int) (t u : Tok) (s : Shared) (Q : Value -> Shared -> Prop) (E : Value -> Shared -> Prop),C i j -> Q (.int (g i j) s.toks) { s with toks := s.toks + 1 } -> wpAny (model X.prog X.w) X.A (f (.int i t) (.int j u)) Q E s) :
    OpR X f (rI C λ i j => .int (g i j)) := by
  intro pins s σ H x y v u Q I rx ry h
  obtain ⟨i,j,rfl,rfl,hc,q⟩ := h
  obtain ⟨t,rfl⟩ := rx
  obtain ⟨t',rfl⟩ := ry
  exact rule i j t t' s _ _ hc ⟨.int (g i j),H,I.tok _,⟨_,rfl⟩,q⟩
theorem opI0 {f : Value -> Value -> Sem Value} {g : Int -> Int -> Int}
    (rule : ∀ (i j : Int) (t u : Tok) (s : Shared) (Q : Value -> Shared -> Prop) (E : Value -> Shared -> Prop),Q (.int (g i j) s.toks) { s with toks := s.toks + 1 } -> wpAny (model X.prog X.w) X.A (f (.int i t) (.int j u)) Q E s) :
    OpR X f (rI0 λ i j => .int (g i j)) := by
  intro pins s σ H x y v u Q I rx ry h
  obtain ⟨i,j,rfl,rfl,q⟩ := h
  obtain ⟨t,rfl⟩ := rx
  obtain ⟨t',rfl⟩ := ry
  exact rule i j t t' s _ _ ⟨.int (g i j),H,I.tok _,⟨_,rfl⟩,q⟩
theorem opB0 {f : Value -> Value -> Sem Value} {g : Int -> Int -> Bool}
    (rule : ∀ (i j : Int) (t u : Tok) (s : Shared) (Q : Value -> Shared -> Prop) (E : Value -> Shared -> Prop),Q (.bool (g i j)) s -> wpAny (model X.prog X.w) X.A (f (.int i t) (.int j u)) Q E s) :
    OpR X f (rI0 λ i j => .bl (g i j)) := by
  intro pins s σ H x y v u Q I rx ry h
  obtain ⟨i,j,rfl,rfl,q⟩ := h
  obtain ⟨t,rfl⟩ := rx
  obtain ⟨t',rfl⟩ := ry
  exact rule i j t t' s _ _ ⟨.bl (g i j),H,I,rfl,q⟩

def CDiv (i j : Int) : Prop := 0 < j /\ j < 1073741824
def CPow (i j : Int) : Prop := 0 <= j /\ j <= 1000000 /\ i.natAbs < 2 ^ 64
def CMul (i j : Int) : Prop := (-(2 ^ 64) < i /\ i < 2 ^ 64) \/ (-(2 ^ 64) < j /\ j < 2 ^ 64)
theorem CMul.ok {i j : Int} (h : CMul i j) : IntMulOk i j := by
  rcases h with ⟨h1,h2⟩ | ⟨h1,h2⟩
  · exact .of_left (intBits_le_64 h1 h2)
  · exact .of_right (intBits_le_64 h1 h2)
theorem op_add : OpR X (binaryOp .Add) (rI0 λ i j => .int (i + j)) := opI0 λ _ _ _ _ _ _ _ q => add_int q
theorem op_sub : OpR X (binaryOp .Sub) (rI0 λ i j => .int (i - j)) := opI0 λ _ _ _ _ _ _ _ q => sub_int q
theorem op_mul : OpR X (binaryOp .Mult) (rI CMul λ i j => .int (i * j)) := opI λ _ _ _ _ _ _ _ hc q => mul_int q hc.ok
theorem op_fdiv : OpR X (binaryOp .FloorDiv) (rI CDiv λ i j => .int (i / j)) := opI λ i j _ _ _ _ _ hc q => by
  have h1 : (0 : Int) < j := hc.1
  have h2 : j < 1073741824 := hc.2
  exact floordiv_int (by omega) (by rw [Int.fdiv_eq_ediv_of_nonneg i (by omega)]; exact q) (.inl (PyProof.noPylong_small (by omega)))
theorem op_mod : OpR X (binaryOp .Mod) (rI (λ _ j => 0 < j) λ i j => .int (i % j)) := opI λ i j _ _ _ _ _ hc q => by
  have h1 : (0 : Int) < j := hc
  exact mod_int' (by omega) (by rw [Int.fmod_eq_emod_of_nonneg i (by omega)]; exact q)
theorem op_pow : OpR X (binaryOp .Pow) (rI CPow λ i j => .int (i ^ j.toNat)) := opI λ _ _ _ _ _ _ _ hc q => pow_int_small hc.1 hc.2.1 hc.2.2 q
theorem unI {f : Value -> Sem Value} {g : Int -> Int}
    (rule : ∀ (i : Int) (t : Tok) (s : Shared) (Q : Value -> Shared -> Prop) (E : Value -> Shared -> Prop),Q (.int (g i) s.toks) { s with toks := s.toks + 1 } -> wpAny (model X.prog X.w) X.A (f (.int i t)) Q E s) :
    UnR X f (rU λ i => .int (g i)) := by
  intro pins s σ H x v Q I rx h
  obtain ⟨i,rfl,q⟩ := h
  obtain ⟨t,rfl⟩ := rx
  exact rule i t s _ _ ⟨.int (g i),H,I.tok _,⟨_,rfl⟩,q⟩
theorem un_neg : UnR X (unaryOp .USub) (rU λ i => .int (-i)) := unI λ _ _ _ _ _ q => neg_int q
end
def scal : V -> V -> Bool
  | .non,.non => true | .non,.int _ => true | .int _,.non => true | .non,.bl _ => true | .bl _,.non => true | .non,.str _ => true | .str _,.non => true
  | .int _,.int _ => true | .bl _,.bl _ => true | .str _,.str _ => true | .byt _,.byt _ => true
  | .int _,.str _ => true | .str _,.int _ => true | .bl _,.str _ => true | .str _,.bl _ => true
  | _,_ => false
def rEq : R2 := λ x y H Q => scal x y = true /\ Q (.bl (decide (x = y))) H
def rNe : R2 := λ x y H Q => scal x y = true /\ Q (.bl (!decide (x = y))) H

theorem dec_int {i j : Int} : decide (V.int i = V.int j) = (i == j) := by
  rw [Bool.eq_iff_iff]
  simp
theorem dec_bl {i j : Bool} : decide (V.bl i = V.bl j) = (i == j) := by
  rw [Bool.eq_iff_iff]
  simp
theorem dec_str {i j : Str} : decide (V.str i = V.str j) = (i == j) := by
  rw [Bool.eq_iff_iff]
  simp
theorem dec_byt {i j : Array UInt8} : decide (V.byt i = V.byt j) = (i.toList == j.toList) := by
  rw [Bool.eq_iff_iff]
  cases i
  cases j
  simp

section
variable {X : Cx} {a b c : Expr} {ta tb tc : TE} {pos : Pos}
theorem fin_bl {pins : List (Addr × Obj)} {σ : St} {H : Hp} {s : Shared} {Q : VK} {k k' : Bool} (I : Inv X pins σ H s) (q : Q (.bl k) H) (e : k = k') : EP X pins σ Q (.bool k') s := by
  subst e
  exact ⟨.bl k,H,I,rfl,q⟩
theorem op_eq : OpR X (compareOp .Eq) rEq := by
  intro pins s σ H x y v u Q I rx ry h
  obtain ⟨hs,q⟩ := h
  cases x with
  | non =>
    cases rx
    cases y with
    | non => cases ry; exact PySem.EqNone.eq_none_none (fin_bl I q (by simp))
    | bl j => cases ry; exact PySem.EqNone.eq_none_bool (fin_bl I q (by simp))
    | int j => obtain ⟨t',rfl⟩ := ry; exact PySem.EqNone.eq_none_int (fin_bl I q (by simp))
    | str j => obtain ⟨t',rfl⟩ := ry; exact PySem.EqNone.eq_none_str (fin_bl I q (by simp))
    | _ => exact absurd (show false = true from hs) Bool.false_ne_true
  | bl i =>
    cases rx
    cases y with
    | non => cases ry; exact PySem.EqNone.eq_bool_none (fin_bl I q (by simp))
    | bl j => cases ry; exact eq_bool (fin_bl I q dec_bl)
    | str j => obtain ⟨t',rfl⟩ := ry; exact PySem.EqMixed.eq_bool_str (fin_bl I q (by simp))
    | _ => exact absurd (show false = true from hs) Bool.false_ne_true
  | int i =>
    obtain ⟨t,rfl⟩ := rx
    cases y with
    | non => cases ry; exact PySem.EqNone.eq_int_none (fin_bl I q (by simp))
    | int j => obtain ⟨t',rfl⟩ := ry; exact eq_int (fin_bl I q dec_int)
    | str j => obtain ⟨t',rfl⟩ := ry; exact PySem.EqMixed.eq_int_str (fin_bl I q (by simp))
    | _ => exact absurd (show false = true from hs) Bool.false_ne_true
  | str i =>
    obtain ⟨t,rfl⟩ := rx
    cases y with
    | non => cases ry; exact PySem.EqNone.eq_str_none (fin_bl I q (by simp))
    | bl j => cases ry; exact PySem.EqMixed.eq_str_bool (fin_bl I q (by simp))
    | int j => obtain ⟨t',rfl⟩ := ry; exact PySem.EqMixed.eq_str_int (fin_bl I q (by simp))
    | str j => obtain ⟨t',rfl⟩ := ry; exact eq_str (fin_bl I q dec_str)
    | _ => exact absurd (show false = true from hs) Bool.false_ne_true
  | byt i =>
    obtain ⟨t,rfl⟩ := rx
    cases y with
    | byt j => obtain ⟨t',rfl⟩ := ry; exact PySem.W.eq_bytes (fin_bl I q dec_byt)
    | _ => exact absurd (show false = true from hs) Bool.false_ne_true
  | _ => cases y <;> exact absurd (show false = true from hs) Bool.false_ne_true
theorem op_ne : OpR X (compareOp .NotEq) rNe := by
  intro pins s σ H x y v u Q I rx ry h
  obtain ⟨hs,q⟩ := h
  cases x with
  | non =>
    cases rx
    cases y with
    | non => cases ry; exact PySem.EqNone.ne_none_none (fin_bl I q (by simp))
    | bl j => cases ry; exact PySem.EqNone.ne_none_bool (fin_bl I q (by simp))
    | int j => obtain ⟨t',rfl⟩ := ry; exact PySem.EqNone.ne_none_int (fin_bl I q (by simp))
    | str j => obtain ⟨t',rfl⟩ := ry; exact PySem.EqNone.ne_none_str (fin_bl I q (by simp))
    | _ => exact absurd (show false = true from hs) Bool.false_ne_true
  | bl i =>
    cases rx
    cases y with
    | non => cases ry; exact PySem.EqNone.ne_bool_none (fin_bl I q (by simp))
    | bl j => cases ry; exact ne_bool (fin_bl I q (congrArg not dec_bl))
    | str j => obtain ⟨t',rfl⟩ := ry; exact PySem.EqMixed.ne_bool_str (fin_bl I q (by simp))
    | _ => exact absurd (show false = true from hs) Bool.false_ne_true
  | int i =>
    obtain ⟨t,rfl⟩ := rx
    cases y with
    | non => cases ry; exact PySem.EqNone.ne_int_none (fin_bl I q (by simp))
    | int j => obtain ⟨t',rfl⟩ := ry; exact ne_int (fin_bl I q (congrArg not dec_int))
    | str j => obtain ⟨t',rfl⟩ := ry; exact PySem.EqMixed.ne_int_str (fin_bl I q (by simp))
    | _ => exact absurd (show false = true from hs) Bool.false_ne_true
  | str i =>
    obtain ⟨t,rfl⟩ := rx
    cases y with
    | non => cases ry; exact PySem.EqNone.ne_str_none (fin_bl I q (by simp))
    | bl j => cases ry; exact PySem.EqMixed.ne_str_bool (fin_bl I q (by simp))
    | int j => obtain ⟨t',rfl⟩ := ry; exact PySem.EqMixed.ne_str_int (fin_bl I q (by simp))
    | str j => obtain ⟨t',rfl⟩ := ry; exact ne_str (fin_bl I q (congrArg not dec_str))
    | _ => exact absurd (show false = true from hs) Bool.false_ne_true
  | byt i =>
    obtain ⟨t,rfl⟩ := rx
    cases y with
    | byt j => obtain ⟨t',rfl⟩ := ry; exact PySem.W.ne_bytes (fin_bl I q (congrArg not dec_byt))
    | _ => exact absurd (show false = true from hs) Bool.false_ne_true
  | _ => cases y <;> exact absurd (show false = true from hs) Bool.false_ne_true

theorem op_lt : OpR X (compareOp .Lt) (rI0 λ i j => .bl (decide (i < j))) := opB0 λ _ _ _ _ _ _ _ q => lt_int q
theorem op_le : OpR X (compareOp .LtE) (rI0 λ i j => .bl (decide (i <= j))) := opB0 λ _ _ _ _ _ _ _ q => le_int q
theorem op_gt : OpR X (compareOp .Gt) (rI0 λ i j => .bl (decide (j < i))) := opB0 λ _ _ _ _ _ _ _ q => gt_int q
theorem op_ge : OpR X (compareOp .GtE) (rI0 λ i j => .bl (decide (j <= i))) := opB0 λ _ _ _ _ _ _ _ q => ge_int q
theorem op_isN : OpR X (compareOp .Is) (λ x y H Q => y = .non /\ Q (.bl (decide (x = .non))) H) := by
  intro pins s σ H x y v u Q I rx ry h
  obtain ⟨rfl,q⟩ := h
  cases ry
  refine is_none_gen (fin_bl I q ?_)
  cases x <;> first
    | (cases rx; rfl)
    | (obtain ⟨t,rfl⟩ := rx; rfl)
theorem pe_cmpR {op : CmpOp} {r : R2} (ho : OpR X (compareOp op) r) (ha : PE X a ta) (hb : PE X b tb) (hm : behindInMarks op b = false) : PE X (.Compare a [op] [b] pos) (tOp r ta tb) := by
  intro pins s σ H Q I h
  exact wpAny_Compare1 (binT ha hb I h λ v u s2 x y H2 I2 rx ry q => ho pins s2 σ H2 x y v u Q I2 rx ry q) hm
def tTest (t : TE) : TT := λ σ H Q => t σ H λ x H' => ∃ k,x = .bl k /\ Q k H'
theorem pt_cmpR {op : CmpOp} {r : R2} (ho : OpR X (compareOp op) r) (ha : PE X a ta) (hb : PE X b tb) (hm : behindInMarks op b = false) : PT X (.Compare a [op] [b] pos) (tTest (tOp r ta tb)) := by
  intro pins s σ H Q I h
  refine wpAny_isTrue_Compare1 (thn (ha pins s σ H _ I h) λ v s1 ⟨x,H1,I1,r1,q1⟩ => thn (hb pins s1 σ H1 _ I1 q1) λ u s2 ⟨y,H2,I2,r2,q2⟩ =>
    thn (ho pins s2 σ H2 x y v u _ I2 r1 r2 q2) λ c s3 ⟨z,H3,I3,r3,k,e,q3⟩ => ?_) hm
  subst e
  cases r3
  exact wpAny_truthy_bool ⟨H3,I3,q3⟩
def TruV (K : PySem.W.Frag) (x : V) (H : Hp) (k : Bool) : Prop :=
  match x with
  | .non => k = false
  | .bl b => k = b
  | .int i => k = (i != 0)
  | .str y => y.length <= sizeLine /\ k = ((y.length : Int) != 0)
  | .byt y => y.size <= sizeLine /\ k = ((y.size : Int) != 0)
  | .ref p => (∃ xs,SqL K H p xs /\ k = !xs.isEmpty) \/ (∃ xs,SqT K H p xs /\ k = !xs.isEmpty) \/ ∃ kvs,H p = some (.dK kvs) /\ k = !kvs.isEmpty
  | _ => False
theorem line63 : (sizeLine : Nat) < 2 ^ 63 := by rw [sizeLine_eq]; decide
theorem op_add_str : OpR X (binaryOp .Add) (λ x y H Q => ∃ i j,x = .str i /\ y = .str j /\ i.length + j.length <= sizeLine /\ Q (.str (i ++ j)) H) := by
  intro pins s σ H x y v u Q I rx ry h
  obtain ⟨i,j,rfl,rfl,hz,q⟩ := h
  obtain ⟨t,rfl⟩ := rx
  obtain ⟨t',rfl⟩ := ry
  exact add_str (λ t' tk => ⟨.str (i ++ j),H,I.tok _,⟨_,rfl⟩,q⟩) hz
theorem vals1 {x : V} {us : List Value} (r : Vals [x] us) : ∃ u,us = [u] /\ RelV x u := by
  cases r with
  | cons r1 r2 => cases r2; exact ⟨_,rfl,r1⟩
theorem vals2 {x y : V} {us : List Value} (r : Vals [x,y] us) : ∃ u w',us = [u,w'] /\ RelV x u /\ RelV y w' := by
  cases r with
  | cons r1 r2 =>
    cases r2 with
    | cons r3 r4 => cases r4; exact ⟨_,_,rfl,r1,r3⟩
theorem call_abs : CallR X (.builtin "abs") (λ xs H Q => ∃ i,xs = [.int i] /\ Q (.int (if i < 0 then -i else i)) H) := by
  intro pins s σ H xs us Q I r h
  obtain ⟨i,rfl,q⟩ := h
  obtain ⟨u,rfl,t,rfl⟩ := vals1 r
  exact call_abs_int λ u tk => ⟨.int (if i < 0 then -i else i),H,I.tok _,⟨_,rfl⟩,q⟩
theorem call_max2 (hc : X.calm = true) : CallR X (.builtin "max") (λ xs H Q => ∃ i j,xs = [.int i,.int j] /\ Q (.int (if j > i then j else i)) H) := by
  intro pins s σ H xs us Q I r h
  obtain ⟨i,j,rfl,q⟩ := h
  obtain ⟨u,w',rfl,⟨t,rfl⟩,⟨t',rfl⟩⟩ := vals2 r
  refine max_two_ints (I.ok.hd hc) λ h' tk k => ⟨_,H,I.kept k,?_,q⟩
  by_cases hj : j > i
  · rw [if_pos hj,if_pos hj]; exact ⟨_,rfl⟩
  · rw [if_neg hj,if_neg hj]; exact ⟨_,rfl⟩
def LenV (K : PySem.W.Frag) (x : V) (H : Hp) (n : Nat) : Prop :=
  match x with
  | .str y => y.length <= sizeLine /\ n = y.length
  | .byt y => y.size <= sizeLine /\ n = y.size
  | .ref p => (∃ xs,SqL K H p xs /\ n = xs.length) \/ ∃ xs,SqT K H p xs /\ n = xs.length
  | _ => False
theorem call_len : CallR X (.builtin "len") (λ xs H Q => ∃ x n,xs = [x] /\ LenV X.K x H n /\ Q (.int n) H) := by
  intro pins s σ H xs us Q I r h
  obtain ⟨x,n,rfl,e,q⟩ := h
  obtain ⟨u,rfl,rx⟩ := vals1 r
  have hl := line63
  have hs : sizeLine = 16777216 := sizeLine_eq
  cases x with
  | str y =>
    obtain ⟨t,rfl⟩ := rx
    obtain ⟨hy,e'⟩ : y.length <= sizeLine /\ n = y.length := e
    subst e'
    exact len_str (by omega) ⟨.int _,H,I.tok _,⟨_,rfl⟩,q⟩
  | byt y =>
    obtain ⟨t,rfl⟩ := rx
    obtain ⟨hy,e'⟩ : y.size <= sizeLine /\ n = y.size := e
    subst e'
    exact PySem.W.len_bytes (by omega) ⟨.int _,H,I.tok _,⟨_,rfl⟩,q⟩
  | ref p =>
    cases rx
    have e' : (∃ xs,SqL X.K H p xs /\ n = xs.length) \/ ∃ xs,SqT X.K H p xs /\ n = xs.length := e
    rcases e' with ⟨xs,hx,e'⟩ | ⟨xs,hx,e'⟩
    · subst e'
      obtain ⟨its,r',pl,hz⟩ := I.list hx
      have hlen := r'.length
      exact Calls.call_len_list pl.isList (by simp only [List.size_toArray]; omega) ⟨.int xs.length,H,I.tok _,⟨_,by simp only [List.size_toArray]; rw [hlen]⟩,q⟩
    · subst e'
      obtain ⟨its,r',pl,hz⟩ := I.tuple hx
      have hlen := r'.length
      exact len_tuple pl (by simp only [List.size_toArray]; omega) ⟨.int xs.length,H,I.tok _,⟨_,by simp only [List.size_toArray]; rw [hlen]⟩,q⟩
  | _ => exact (show False from e).elim
end
end L2
namespace L2
open PySem PySem.Spec PyProof.Rows
structure ObjM (h : Heap) (x dx C : Addr) (mA : Str -> Option Value) : Prop where
  obj : h.get? x = some (PySem.W.instObj C dx)
  ns : h.Ns1 dx mA
  ne : dx ≠ x

theorem lookIn_ns {h : Heap} {dx : Addr} {mA : Str -> Option Value} (n : h.Ns1 dx mA) : ∃ od,h.get? dx = some od /\ ∀ name,PySem.W.lookIn name od = some (mA name) := by
  obtain ⟨o,es,ep,ho,hd,hk,_,hm⟩ := n
  refine ⟨o,ho,λ name => ?_⟩
  have e := hm name
  unfold nsFind findBy at e
  rw [<- Array.find?_toList] at e
  unfold PySem.W.lookIn
  rw [hd]
  dsimp only
  split
  · rename_i y q
    rw [q] at e
    exact congrArg some e
  · rename_i q
    rw [q] at e
    have a : es.toList.any (·.refKey) = false := by
      rw [List.any_eq_false]
      intro y hy
      obtain ⟨z,t,hkey⟩ := hk y (Array.mem_toList_iff.mp hy)
      simp [DictEntry.refKey,hkey]
    have a' : ¬ es.toList.any (·.refKey) = true := by rw [a]; exact Bool.false_ne_true
    rw [if_neg a']
    exact congrArg some e

theorem ObjM.look {h : Heap} {x dx C : Addr} {mA : Str -> Option Value} (I : ObjM h x dx C mA) : ∃ od,PySem.W.InstAt h x (PySem.W.instObj C dx) C (some od) /\ ∀ name,PySem.W.lookIn name od = some (mA name) :=
  let ⟨od,ho,hl⟩ := lookIn_ns I.ns
  ⟨od,⟨I.obj,rfl,rfl,ho⟩,hl⟩

section
variable {prog : Program} {w : World} {A : Around} {E : Value -> Shared -> Prop} {s : Shared} {K : PySem.W.Frag} {x dx C f : Addr} {mA : Str -> Option Value} {name : Str} {v : Value}
theorem get_map {expr : Bool} {Q : Value -> Shared -> Prop} (X : K.In s.heap) (I : ObjM s.heap x dx C mA) (hg : PySem.W.plainGet K C name = true) (hh : PySem.W.hasDictIn K C = true)
    (ha : PySem.W.findIn K (.ref C) name = some none) (hv : mA name = some v) (hv' : PySem.W.handedIn v = true) (h : Q v { s with toks := s.toks + 1 }) :
    wpAny (model prog w) A (getAttr (.ref x) name expr) Q E s := by
  obtain ⟨od,J,hl⟩ := I.look
  exact PySem.W.get_value X J (PySem.W.plainGet_of hg).1 (PySem.W.findObj_own hh ha rfl (by rw [hl,hv])) hv' h

theorem get_meth {pl : Sem Bool} {Q : Value × List Value -> Shared -> Prop} (X : K.In s.heap) (I : ObjM s.heap x dx C mA) (hg : PySem.W.plainGet K C name = true)
    (hf : PySem.W.findIn K (.ref C) name = some (some (.ref f))) (ht : PySem.W.isFn K (.ref f) = true) (hv : mA name = none) (h : Q (.ref f,[.ref x]) s) :
    wpAny (model prog w) A (getMethod (.ref x) name pl) Q E s := by
  obtain ⟨od,J,hl⟩ := I.look
  exact PySem.W.method_fn X J (PySem.W.plainGet_of hg).1 (PySem.W.plainGet_of hg).2 hf (beq_iff_eq.mp ht) (by show (PySem.W.lookIn name od).map (·.isSome) = some false; rw [hl,hv]; rfl) h

theorem set_map {ns : List Str} {Q : Unit -> Shared -> Prop} (X : K.In s.heap) (I : ObjM s.heap x dx C mA)
    (hs : PySem.W.findIn K (.ref C) "__setattr__" = some (some (.builtin "object.__setattr__"))) (hp : PySem.W.plainOver K C = true) (ht : PySem.W.takerIn K C name = some none) (hh : PySem.W.hasDictIn K C = true)
    (hw : PySem.Within mA ns) (hsz : ns.length <= sizeLine)
    (h : ∀ h',ObjM h' x dx C (λ y => if y = name then some v else mA y) -> Heap.SameBut dx s.heap h' -> Q () { s with heap := h',toks := s.toks + 2 }) :
    wpAny (model prog w) A (setAttr (.ref x) name v) Q E s := by
  obtain ⟨od,J,hl⟩ := I.look
  refine PySem.W.set_plain X J hs (PySem.W.osa_open (s := { s with toks := s.toks + 1 }) (r := none) X J hp ht λ b => ?_)
  obtain ⟨cd,hc,hd'⟩ := PySem.W.any_some hh
  have hx : s.heap.get? x = some ⟨.ref C,some dx,.plain,#[]⟩ := I.obj
  refine wpAny_bind (wpAny_pure (wpAny_bind (wpAny_bind (wpAny_loadPart hx (wpAny_bind (PySem.W.Looks.here (s := { s with toks := s.toks + 1 }) (PySem.W.looks_clsIn X hc) ?_))))))
  rw [hd']
  refine wpAny_pure (a := some dx) (wpAny_bind (wpAny_pure (wpAny_bind ?_)))
  refine wpAny_nsSet1 (s := { s with toks := s.toks + 1 }) I.ns λ h' hn2 hs2 => ?_
  obtain ⟨oD,esD,epD,hoD,hdD,hcD⟩ := hn2.count (PySem.Within.cons name v hw)
  refine wpAny_bind (wpAny_lookBehind hoD (by rw [hdD]; exact pastItsLine_dict (Nat.le_trans hcD (by rw [List.length_cons]; omega))) ?_)
  exact wpAny_pure (h _ ⟨(hs2.2 _ (Ne.symm I.ne)).trans I.obj,hn2,I.ne⟩ hs2)

theorem make_map {R : Result -> Shared -> Prop} {vs : List Value} {kw : List (Str × Value)} (X : K.In s.heap) (hm : PySem.W.makesIn K C = true)
    (hi : PySem.W.findIn K (.ref C) "__init__" = some (some (.ref f))) (hf : PySem.W.typeIn K (.ref f) = some (.type "function"))
    (h : codeAny (model prog w) (A.under (.builtin "type.__call__" ⟨.ref C :: vs,kw⟩)) (.call (.ref f) ⟨.ref (s.heap.objs.size + 1) :: vs,kw⟩) (PySem.W.InitBack (s.heap.objs.size + 1) R)
      { s with heap := (s.heap.push PySem.W.emptyDict).push (PySem.W.instObj C s.heap.objs.size) }) :
    codeAny (model prog w) A (.call (.ref C) ⟨vs,kw⟩) R s := by
  obtain ⟨hh,g,d,t,os⟩ := s
  exact PySem.W.make_core (PySem.W.makes_of X hm) (PySem.W.looks_findIn X hi) (λ self => PySem.W.bind_fn X self hf) (.inl rfl) h
end
def putF (f : Str) (v : V) : List (Str × V) -> List (Str × V)
  | [] => [(f,v)]
  | (g,x) :: r => if g = f then (g,v) :: r else (g,x) :: putF f v r
theorem lookup_putF (f g : Str) (v : V) : ∀ fs : List (Str × V),(putF f v fs).lookup g = if g = f then some v else fs.lookup g
  | [] => by
    show List.lookup g [(f,v)] = _
    by_cases h : g = f
    · have hb : (g == f) = true := beq_iff_eq.mpr h
      simp only [List.lookup,hb,if_pos h]
    · have hb : (g == f) = false := beq_eq_false_iff_ne.mpr h
      simp only [List.lookup,hb,if_neg h]
  | (k,x) :: r => by
    have ih := lookup_putF f g v r
    rw [show putF f v ((k,x) :: r) = (if k = f then (k,v) :: r else (k,x) :: putF f v r) from rfl]
    by_cases hk : k = f
    · rw [if_pos hk]
      by_cases h : g = k
      · have hb : (g == k) = true := beq_iff_eq.mpr h
        simp only [List.lookup,hb,if_pos (h.trans hk)]
      · have hb : (g == k) = false := beq_eq_false_iff_ne.mpr h
        simp only [List.lookup,hb,if_neg (λ e : g = f => h (e.trans hk.symm))]
    · rw [if_neg hk]
      by_cases h : g = k
      · have hb : (g == k) = true := beq_iff_eq.mpr h
        simp only [List.lookup,hb,if_neg (λ e : g = f => hk (h.symm.trans e))]
      · have hb : (g == k) = false := beq_eq_false_iff_ne.mpr h
        simp only [List.lookup,hb]
        exact ih
theorem keys_putF (f : Str) (v : V) : ∀ fs : List (Str × V),f ∈ (putF f v fs).map (·.1) /\ ∀ g,g ∈ fs.map (·.1) -> g ∈ (putF f v fs).map (·.1)
  | [] => ⟨by simp [putF],λ g h => by simp at h⟩
  | (k,x) :: r => by
    obtain ⟨i1,i2⟩ := keys_putF f v r
    rw [show putF f v ((k,x) :: r) = (if k = f then (k,v) :: r else (k,x) :: putF f v r) from rfl]
    by_cases hk : k = f
    · rw [if_pos hk]
      subst hk
      exact ⟨by simp,λ g h => by simpa using h⟩
    · rw [if_neg hk]
      refine ⟨?_,λ g h => ?_⟩
      · rw [List.map_cons]
        exact List.mem_cons_of_mem _ i1
      · rw [List.map_cons] at h ⊢
        rcases List.mem_cons.mp h with e | e
        · exact List.mem_cons.mpr (.inl e)
        · exact List.mem_cons_of_mem _ (i2 g e)
theorem length_putF (f : Str) (v : V) : ∀ fs : List (Str × V),(putF f v fs).length <= fs.length + 1
  | [] => by simp [putF]
  | (k,x) :: r => by
    have ih := length_putF f v r
    rw [show putF f v ((k,x) :: r) = (if k = f then (k,v) :: r else (k,x) :: putF f v r) from rfl]
    by_cases hk : k = f
    · rw [if_pos hk,List.length_cons,List.length_cons]; omega
    · rw [if_neg hk,List.length_cons,List.length_cons]; omega

theorem RelO.some_of {v : V} {o : Option Value} (r : RelO (some v) o) : ∃ u,o = some u /\ RelV v u := by
  cases o with
  | none => exact (show False from r).elim
  | some u => exact ⟨u,rfl,r⟩
theorem RelO.none_of {o : Option Value} (r : RelO none o) : o = none := by
  cases o with
  | none => rfl
  | some u => exact (show False from r).elim
theorem handed_of {v : V} {u : Value} (r : RelV v u) : PySem.W.handedIn u = true := by
  cases v with
  | non => cases (show u = Value.none from r); rfl
  | bl b => cases (show u = Value.bool b from r); rfl
  | int i => obtain ⟨t,e⟩ := (show ∃ t,u = Value.int i t from r); cases e; rfl
  | str x => obtain ⟨t,e⟩ := (show ∃ t,u = Value.str x t from r); cases e; rfl
  | byt b => obtain ⟨t,e⟩ := (show ∃ t,u = Value.bytes b t from r); cases e; rfl
  | flt b => obtain ⟨t,e⟩ := (show ∃ t,u = Value.float b t from r); cases e; rfl
  | ref a => cases (show u = Value.ref a from r); rfl
  | ty n => cases (show u = Value.type n from r); rfl

section
variable {P : Program} {w : World} {H H' : Hp} {h h' : Heap} {a C dx : Addr} {fs fs' : List (Str × V)}
theorem ins_get (hok : HOk P w H h) (e : H a = some (.ins C dx fs)) : ∃ mA,ObjM h a dx C mA /\ (∀ f,RelO (fs.lookup f) (mA f)) /\ PySem.Within mA (fs.map (·.1)) /\ fs.length <= 1000 /\ H dx = some (.own a) := by
  obtain ⟨d,z,ne,ob,mA,n,r,q⟩ := (show ObjOk P w H h a (.ins C dx fs) from hok a _ e)
  exact ⟨mA,⟨ob,n,ne⟩,r,q,z,d⟩
end
structure Cls (K : PySem.W.Frag) (C : Addr) : Prop where
  pg : PySem.W.plainGet K C Str.empty = true
  hd : PySem.W.hasDictIn K C = true
  po : PySem.W.plainOver K C = true
  sa : PySem.W.findIn K (.ref C) "__setattr__" = some (some (.builtin "object.__setattr__"))
theorem Cls.get {K : PySem.W.Frag} {C : Addr} (c : Cls K C) (f : Str) : PySem.W.plainGet K C f = true := c.pg
def NoAttr (K : PySem.W.Frag) (C : Addr) (f : Str) : Prop := PySem.W.findIn K (.ref C) f = some none
theorem NoAttr.taker {K : PySem.W.Frag} {C : Addr} {f : Str} (n : NoAttr K C f) : PySem.W.takerIn K C f = some none := by
  unfold PySem.W.takerIn
  rw [show PySem.W.findIn K (.ref C) f = some none from n]
  rfl
structure Meth (K : PySem.W.Frag) (C : Addr) (m : Str) (f : Addr) : Prop where
  at_ : PySem.W.findIn K (.ref C) m = some (some (.ref f))
  fn : PySem.W.isFn K (.ref f) = true
  kp : PySem.W.keepIn K (.ref f) = true

section
variable {X : Cx} {pins : List (Addr × Obj)} {σ : St} {H : Hp} {s : Shared} {a C dx : Addr} {fs : List (Str × V)} {f : Str} {v : V} {A : Around} {E : Value -> Shared -> Prop}
theorem getattr_ok {b : Bool} {Q : Value -> Shared -> Prop} (I : Inv X pins σ H s) (e : H a = some (.ins C dx fs)) (c : Cls X.K C) (n : NoAttr X.K C f) (l : fs.lookup f = some v)
    (h : ∀ u s',Inv X pins σ H s' -> RelV v u -> Q u s') : wpAny (model X.prog X.w) A (getAttr (.ref a) f b) Q E s := by
  obtain ⟨mA,O,r,_,_,_⟩ := ins_get I.hok e
  obtain ⟨u,hu,ru⟩ := RelO.some_of (v := v) (o := mA f) (by rw [<- l]; exact r f)
  exact get_map I.kIn O (c.get f) c.hd n hu (handed_of ru) (h u _ (I.tok _) ru)

theorem getmeth_ok {m : Str} {g : Addr} {pl : Sem Bool} {Q : Value × List Value -> Shared -> Prop} (I : Inv X pins σ H s) (e : H a = some (.ins C dx fs)) (c : Cls X.K C) (k : Meth X.K C m g) (l : fs.lookup m = none)
    (h : Q (.ref g,[.ref a]) s) : wpAny (model X.prog X.w) A (getMethod (.ref a) m pl) Q E s := by
  obtain ⟨mA,O,r,_,_,_⟩ := ins_get I.hok e
  have hn : mA m = none := RelO.none_of (by rw [<- l]; exact r m)
  exact get_meth I.kIn O (c.get m) k.at_ k.fn hn h

theorem setattr_ok {y : V} {u : Value} {Q : Unit -> Shared -> Prop} (I : Inv X pins σ H s) (e : H a = some (.ins C dx fs)) (c : Cls X.K C) (n : NoAttr X.K C f) (hl : fs.length < 1000) (ry : RelV y u)
    (h : ∀ s',Inv X pins σ (upd H a (.ins C dx (putF f y fs))) s' -> Q () s') : wpAny (model X.prog X.w) A (setAttr (.ref a) f u) Q E s := by
  obtain ⟨mA,O,r,wi,_,ho⟩ := ins_get I.hok e
  have hz : (fs.map (·.1)).length <= sizeLine := by rw [List.length_map,sizeLine_eq]; omega
  refine set_map I.kIn O c.sa c.po n.taker c.hd wi hz λ h' O' sb => h _ ?_
  have hd : ∃ o,h'.get? dx = some o := let ⟨o,_,_,e',_⟩ := O'.ns; ⟨o,e'⟩
  refine I.write (x := a) (e := dx) (by rw [e]; exact True.intro) (.inr ho) (λ b q hb z => (sb.2 b hb).trans z) hd ?_
  refine ⟨by rw [upd_ne O.ne]; exact ho,?_,O.ne,O'.obj,_,O'.ns,λ g => ?_,λ g hg => ?_⟩
  · have := length_putF f y fs; omega
  · show RelO ((putF f y fs).lookup g) (if g = f then some u else mA g)
    rw [lookup_putF]
    by_cases q : g = f
    · rw [if_pos q,if_pos q]; exact ry
    · rw [if_neg q,if_neg q]; exact r g
  · by_cases q : g = f
    · rw [q]; exact (keys_putF f y fs).1
    · refine (keys_putF f y fs).2 g (wi g λ z => hg ?_)
      show (if g = f then some u else mA g) = none
      rw [if_neg q]; exact z

theorem Inv.made (I : Inv X pins σ H s) : Inv X pins σ (upd (upd H s.heap.objs.size (.own (s.heap.objs.size + 1))) (s.heap.objs.size + 1) (.ins C s.heap.objs.size []))
    { s with heap := (s.heap.push PySem.W.emptyDict).push (PySem.W.instObj C s.heap.objs.size) } := by
  have e1 : (s.heap.push PySem.W.emptyDict).get? s.heap.objs.size = some PySem.W.emptyDict := Heap.get?_push_size s.heap rfl
  have e2 : ((s.heap.push PySem.W.emptyDict).push (PySem.W.instObj C s.heap.objs.size)).get? (s.heap.objs.size + 1) = some (PySem.W.instObj C s.heap.objs.size) := by
    have := Heap.get?_push_size (s.heap.push PySem.W.emptyDict) (o := PySem.W.instObj C s.heap.objs.size) rfl
    rwa [Heap.size_push] at this
  have e3 : (s.heap.push PySem.W.emptyDict).Ns s.heap.objs.size (λ _ => none) := ⟨PySem.W.emptyDict,#[],_,e1,rfl,(λ e he => absurd he (by simp)),λ _ => rfl⟩
  have I1 := I.laid (a := s.heap.objs.size) (o := .own (s.heap.objs.size + 1)) (h' := s.heap.push PySem.W.emptyDict) (t' := s.toks) (λ b u q => Heap.get?_push_of_some _ q) (Nat.le_refl _) ⟨_,e1⟩
  refine I1.laid (a := s.heap.objs.size + 1) (o := .ins C s.heap.objs.size []) (t' := s.toks) (λ b u q => Heap.get?_push_of_some _ q) (Nat.le_of_eq (Heap.size_push _ _)) ?_
  have ne : s.heap.objs.size ≠ s.heap.objs.size + 1 := Nat.ne_of_lt (Nat.lt_succ_self _)
  refine ⟨by rw [upd_ne ne,upd_same],Nat.zero_le _,ne,e2,λ _ => none,(Heap.Ns1.of_empty e3).at λ o q => Heap.get?_push_of_some _ q,λ _ => True.intro,λ y hy => absurd rfl hy⟩

theorem attr_of {prog : Program} {w : World} {env : Env} {e : Expr} {f : Str} {pos : Pos} {s : Shared} {Q : Value -> Shared -> Prop} (hb : attributeBase e f env (eval e env) = eval e env)
    (h : wpAny (model prog w) A (eval e env) (λ o s₁ => wpAny (model prog w) A (getAttr o f true) Q E s₁) E s) : wpAny (model prog w) A (eval (.Attribute e f pos) env) Q E s :=
  Attribute_any_ h (by rw [arm_eval_Attribute,hb])
end
def tFld (K : PySem.W.Frag) (ta : TE) (f : Str) : TE := λ σ H Q => ta σ H λ x H1 => ∃ a C dx fs v,x = .ref a /\ H1 a = some (.ins C dx fs) /\ Cls K C /\ NoAttr K C f /\ fs.lookup f = some v /\ Q v H1
def sFld (K : PySem.W.Frag) (ta tv : TE) (f : Str) : TS := λ D σ H => tv σ H λ y H1 => ta σ H1 λ x H2 => ∃ a C dx fs,x = .ref a /\ H2 a = some (.ins C dx fs) /\ Cls K C /\ NoAttr K C f /\ fs.length < 1000 /\
  D.nx σ (upd H2 a (.ins C dx (putF f y fs)))
def InOp (X : Cx) (op : Operator) (rd : V -> V -> Hp -> VK -> Prop) : Prop :=
  ∀ (pins : List (Addr × Obj)) (s : Shared) (σ : St) (H : Hp) (x y : V) (u v : Value) (Q : VK),Inv X pins σ H s -> RelV x u -> RelV y v -> rd x y H Q -> wpAny (model X.prog X.w) X.A (inplaceOp op u v) (EP X pins σ Q) X.xe s
def sFldAug (K : PySem.W.Frag) (ta tv : TE) (rd : V -> V -> Hp -> VK -> Prop) (f : Str) : TS := λ D σ H => ta σ H λ x H1 => ∃ a C dx fs v,x = .ref a /\ H1 a = some (.ins C dx fs) /\ Cls K C /\ NoAttr K C f /\ fs.lookup f = some v /\
  tv σ H1 λ y H2 => rd v y H2 λ z H3 => ∃ dx' fs',H3 a = some (.ins C dx' fs') /\ fs'.length < 1000 /\ D.nx σ (upd H3 a (.ins C dx' (putF f z fs')))

section
variable {X : Cx} {o e value : Expr} {f : Str} {pos pos' tpos : Pos} {ta tv : TE}
theorem pe_fld (he : PE X e ta) (hb : attributeBase e f X.env (eval e X.env) = eval e X.env) : PE X (.Attribute e f pos) (tFld X.K ta f) := by
  intro pins s σ H Q I h
  refine attr_of hb (thn (he pins s σ H _ I h) λ u s1 hq18 => ?_)
  obtain ⟨x,H1,I1,rx,a,C,dx,fs,v,ex,ea,c,n,l,q⟩ := hq18
  subst ex
  obtain rfl : u = Value.ref a := rx
  exact getattr_ok I1 ea c n l λ u' s2 I2 ru => ⟨v,H1,I2,ru,q⟩
theorem ps_fld (ha : PE X o ta) (hv : PE X value tv) (hs : swapsWith value (some (.Attribute o f pos')) pos.line X.env = pure false) : PS X (.Assign [.Attribute o f pos'] value pos) (sFld X.K ta tv f) := by
  intro pins s σ H D I h
  refine plainObj_wpAny_Assign_Attribute (thn (hv pins s σ H _ I h) λ u s1 ⟨y,H1,I1,ry,q⟩ => thn (ha pins s1 σ H1 _ I1 q) λ ov s2 ⟨x,H2,I2,rx,a,C,dx,fs,ex,ea,c,n,l,q2⟩ => ?_) hs
  subst ex
  obtain rfl : ov = Value.ref a := rx
  exact setattr_ok I2 ea c n l ry λ s3 I3 => ⟨σ,_,I3,q2⟩
theorem ps_fldaug {op : Operator} {rd : V -> V -> Hp -> VK -> Prop} (ha : PE X o ta) (hv : PE X value tv) (hop : InOp X op rd) : PS X (.AugAssign (.Attribute o f tpos) op value pos) (sFldAug X.K ta tv rd f) := by
  intro pins s σ H D I h
  refine wpAny_AugAssign_AttributeAny (thn (ha pins s σ H _ I h) λ ov s1 hq19 => ?_)
  obtain ⟨x,H1,I1,rx,a,C,dx,fs,v,ex,ea,c,n,l,q⟩ := hq19
  subst ex
  obtain rfl : ov = Value.ref a := rx
  refine getattr_ok I1 ea c n l λ u s2 I2 ru => thn (hv pins s2 σ H1 _ I2 q) λ w3 s3 ⟨y,H2,I3,ry,q3⟩ => thn (hop pins s3 σ H2 v y u w3 _ I3 ru ry q3) λ w4 s4 hq20 => ?_
  obtain ⟨z,H3,I4,rz,dx',fs',ea',l',q4⟩ := hq20
  exact setattr_ok I4 ea' c n l' rz λ s5 I5 => ⟨σ,_,I5,q4⟩
end
section
variable {X : Cx} {pins : List (Addr × Obj)} {σ : St} {H : Hp} {s : Shared} {A : Around} {E : Value -> Shared -> Prop} {Q : Value -> Shared -> Prop} {c : Value} {b : Bool}
end
end L2
namespace L2
open PySem PySem.Spec PyProof.Rows
structure Room (k : Nat) (A : Around) : Prop where
  hd : A.handled = none
  gd : A.guards = some []
  dp : A.depth + 3 * k + 5 < recursionLimit
  un : A.units + 16 * k + 200 < cLine
theorem Room.mono {j k : Nat} {A : Around} (r : Room k A) (h : j <= k) : Room j A := ⟨r.hd,r.gd,by have := r.dp; omega,by have := r.un; omega⟩
theorem Room.deeper {k : Nat} {A : Around} (r : Room (k + 1) A) (env : Env) : Room k (A.deeper env) :=
  ⟨r.hd,r.gd,by have := r.dp; show A.depth + 1 + 3 * k + 5 < _; omega,by have := r.un; show A.units + 3 + 16 * k + 200 < _; omega⟩
theorem make_depth {A : Around} {C : Addr} {us : List Value} {kw : List (Str × Value)} : (A.under (.builtin "type.__call__" ⟨.ref C :: us,kw⟩)).depth = A.depth + 1 := by
  first | rfl | simp [Around.under,Code.weight,Code.isCreation,Code.isGuard,Code.isCaller,Code.frames,Code.isFrame,guardIds]
theorem make_units {A : Around} {C : Addr} {us : List Value} {kw : List (Str × Value)} : (A.under (.builtin "type.__call__" ⟨.ref C :: us,kw⟩)).units = A.units + 1 := by
  first | rfl | simp [Around.under,Code.cUnits,Code.frames,Code.isFrame]
theorem Room.make {k : Nat} {A : Around} (r : Room (k + 1) A) (C : Addr) (us : List Value) (kw : List (Str × Value)) : Room k (A.under (.builtin "type.__call__" ⟨.ref C :: us,kw⟩)) :=
  ⟨r.hd,(by first | exact r.gd | (simpa [Around.under,Code.isGuard,Code.frames,Code.isFrame,guardIds] using r.gd)),by have := r.dp; rw [make_depth]; omega,by have := r.un; rw [make_units]; omega⟩
theorem Room.depth {k : Nat} {A : Around} (r : Room k A) : A.depth < recursionLimit := by have := r.dp; omega
theorem Room.units {k : Nat} {A : Around} (r : Room k A) : A.units + 64 < cLine := by have := r.un; omega
def tNil : TA := λ _ H Q => Q [] H
def tCons (ta : TE) (tr : TA) : TA := λ σ H Q => ta σ H λ x H1 => tr σ H1 λ xs H2 => Q (x :: xs) H2
section
variable {X : Cx} {e : Expr} {es : List Expr} {te : TE} {t : TA} {pos : Pos}
theorem pa_nil : PA X [] tNil := λ _ _ _ _ H Q I h => Calls.spliced_nil ⟨[],H,I,.nil,h⟩
theorem pa_cons (ha : PE X e te) (hr : PA X es t) (hs : starEach (e :: es) X.env = (false,eval e X.env) :: starEach es X.env := by rfl) : PA X (e :: es) (tCons te t) := by
  intro pos pins s σ H Q I h
  rw [hs]
  show wpAny _ _ (spliced ((false,eval e X.env) :: backTo pos (starEach es X.env))) _ _ s
  refine Calls.spliced_cons (thn (ha pins s σ H _ I h) λ u s1 hq21 => ?_)
  obtain ⟨x,H1,I1,r1,q1⟩ := hq21
  exact thn (hr pos pins s1 σ H1 _ I1 q1) λ us s2 ⟨xs,H2,I2,r2,q2⟩ => ⟨x :: xs,H2,I2,.cons r1 r2,q2⟩

def tTup (t : TA) : TE := λ σ H Q => t σ H λ xs H1 => xs.length <= sizeLine /\ ∀ p,H1 p = none -> Q (.ref p) (upd H1 p (.tup xs))
def tLst (t : TA) : TE := λ σ H Q => t σ H λ xs H1 => xs.length <= sizeLine /\ ∀ p,H1 p = none -> Q (.ref p) (upd H1 p (.lst xs))
theorem pe_tup {x1} (h : PA X es t) : PE X (.Tuple es x1 pos) (tTup t) := by
  intro pins s σ H Q I hq
  refine wpAny_Tuple_spliced (thn (h pos pins s σ H _ I hq) λ us s1 ⟨xs,H1,I1,r,z,q⟩ => ⟨by rw [<- r.length]; exact z,?_⟩)
  have hf : H1 s1.heap.objs.size = none := I1.hok.fresh (Nat.le_refl _)
  refine ⟨.ref s1.heap.objs.size,upd H1 s1.heap.objs.size (.tup xs),I1.laid (t' := s1.toks) (λ b u e => Heap.get?_push_of_some _ e) (Nat.le_refl _) ?_,rfl,q _ hf⟩
  exact ⟨z,us,r,⟨_,Heap.get?_push_size _ rfl,rfl,_,rfl⟩⟩
theorem pe_lst (h : PA X es t) : PE X (.List es pos) (tLst t) := by
  intro pins s σ H Q I hq
  refine wpAny_List_spliced (thn (h pos pins s σ H _ I hq) λ us s1 ⟨xs,H1,I1,r,z,q⟩ => ⟨by rw [<- r.length]; exact z,?_⟩)
  have hf : H1 s1.heap.objs.size = none := I1.hok.fresh (Nat.le_refl _)
  refine ⟨.ref s1.heap.objs.size,upd H1 s1.heap.objs.size (.lst xs),I1.laid (t' := s1.toks) (λ b u e => Heap.get?_push_of_some _ e) (Nat.le_refl _) ?_,rfl,q _ hf⟩
  exact ⟨z,us,0,r,Heap.get?_push_size _ rfl⟩
end
abbrev Sp := List V -> Hp -> VK -> XK -> Prop
abbrev CXT := List Env -> Hp -> Shared -> XK -> Value -> Shared -> Prop

structure Env0 (P : Program) (w : World) (K : PySem.W.Frag) (mg : Str -> Option Value) (base : Heap) (A : Around) (outer : List Env) (s : Shared) (H : Hp) : Prop where
  frames : A.frames = some outer
  mod : Mod K mg base
  bs : ∀ b o,base.get? b = some o -> s.heap.get? b = some o /\ H b = none
  bsz : base.objs.size <= s.heap.objs.size
  funs : s.heap.FunFrames base outer
  frf : ∀ b ∈ frs outer,H b = none
  hok : HOk P w H s.heap
  bare : AllBare s.gens
def CE (outer : List Env) (P : Program) (w : World) (H : Hp) (s : Shared) (Q : VK) (u : Value) (s' : Shared) : Prop :=
  ∃ v H',s'.os = s.os /\ AllBare s'.gens /\ Un (frs outer) [] H H' s.heap s'.heap /\ HOk P w H' s'.heap /\ RelV v u /\ Q v H'
def CR (CX : CXT) (outer : List Env) (P : Program) (w : World) (H : Hp) (s : Shared) (Q : VK) (E : XK) (r : Result) (s' : Shared) : Prop :=
  match r with
  | .ok (.ret u) => CE outer P w H s Q u s'
  | .ok _ => False
  | .error e => CX outer H s E e s'
structure FnOk (P : Program) (w : World) (K : PySem.W.Frag) (mg : Str -> Option Value) (base : Heap) (CX : CXT) (k : Nat) (f : Addr) (fd : FuncData) (ps : List Str) (sp : Sp) : Prop where
  len : ∀ vs H Q E,sp vs H Q E -> vs.length = ps.length
  run : ∀ (A : Around) (outer : List Env) (s : Shared) (H : Hp) (args : Args) (us : List Value) (vs : List V) (Q : VK) (E : XK),Room k A -> Env0 P w K mg base A outer s H -> BindsTo s fd args (ps.zip us) -> Vals vs us -> sp vs H Q E ->
    codeAny (model P w) A (.call (.ref f) args) (CR CX outer P w H s Q E) s
theorem Env0.make {P : Program} {w : World} {K : PySem.W.Frag} {mg : Str -> Option Value} {base : Heap} {A : Around} {outer : List Env} {s : Shared} {H : Hp} (e : Env0 P w K mg base A outer s H) (C : Addr) (us : List Value) (kw : List (Str × Value)) :
    Env0 P w K mg base (A.under (.builtin "type.__call__" ⟨.ref C :: us,kw⟩)) outer s H := ⟨by first | exact e.frames | (simpa [Around.under,Code.envs,Code.isFrame,pushEnvs] using e.frames),e.mod,e.bs,e.bsz,e.funs,e.frf,e.hok,e.bare⟩
section
variable {X : Cx} {pins : List (Addr × Obj)} {σ : St} {H : Hp} {s s' : Shared}
theorem Inv.env0 (I : Inv X pins σ H s) : Env0 X.prog X.w X.K X.mg X.base X.A X.stack s H :=
  ⟨I.ok.frames,I.ok.mod,I.bs,Nat.le_trans I.ok.bsz I.sz,I.stack,I.stkFree,I.hok,I.bare⟩
theorem Inv.after {Q : VK} {u : Value} (I : Inv X pins σ H s) (h : CE X.stack X.prog X.w H s Q u s') : EP X pins σ Q u s' := by
  obtain ⟨v,H',os,bare,un,hok,r,q⟩ := h
  obtain ⟨hh,g,d,t,os'⟩ := s'
  obtain rfl : os' = s.os := os
  exact ⟨v,H',I.call (h' := hh) (g' := g) (d' := d) (t' := t) (ch := []) un hok bare (λ b z => absurd z (by simp)),r,q⟩
end
def tCall (sp : Sp) (dvs : List V) (E : XK) (t : TA) : TE := λ σ H Q => t σ H λ vs H1 => sp (vs ++ dvs) H1 Q E
def tMeth (C : Addr) (m : Str) (sp : Sp) (dvs : List V) (E : XK) (ta : TE) (t : TA) : TE := λ σ H Q => ta σ H λ x H1 => ∃ a dx fs,x = .ref a /\ H1 a = some (.ins C dx fs) /\ fs.lookup m = none /\
  t σ H1 λ vs H2 => sp (x :: (vs ++ dvs)) H2 Q E
def tMake (C : Addr) (sp : Sp) (dvs : List V) (E : XK) (t : TA) : TE := λ σ H Q => t σ H λ vs H1 => ∀ x dx,H1 x = none -> H1 dx = none -> dx ≠ x ->
  sp (.ref x :: (vs ++ dvs)) (upd (upd H1 dx (.own x)) x (.ins C dx [])) (λ v H2 => v = .non /\ Q (.ref x) H2) E

def Binds (K : PySem.W.Frag) (fd : FuncData) (ps : List Str) (ds : List Value) : Prop :=
  ∀ (s : Shared) (us : List Value),K.In s.heap -> (us ++ ds).length = ps.length -> BindsTo s fd ⟨us,[]⟩ (ps.zip (us ++ ds))
theorem Binds.all {K : PySem.W.Frag} {fd : FuncData} {ps : List Str} (h : ∀ us : List Value,us.length = ps.length -> bindArgs fd ⟨us,[]⟩ = pure (ps.zip us)) : Binds K fd ps [] := λ s us _ hl => by
  rw [List.append_nil] at hl ⊢
  exact .of_eq (h us hl)

def Passes (CX : CXT) (X : Cx) (E : XK) : Prop := ∀ (pins : List (Addr × Obj)) (σ : St) (H : Hp) (s : Shared) (e : Value) (s' : Shared),Inv X pins σ H s -> CX X.stack H s E e s' -> X.xe e s'

section
variable {X : Cx} {CX : CXT} {k : Nat} {f C : Addr} {fd : FuncData} {ps : List Str} {sp : Sp} {dvs : List V} {ds : List Value} {E : XK} {x m : Str} {p pos apos : Pos} {e o : Expr} {es : List Expr} {ta : TE} {t : TA}
theorem run_fn {pins : List (Addr × Obj)} {σ : St} {H : Hp} {s : Shared} {Q : VK} {us : List Value} {vs : List V} (F : FnOk X.prog X.w X.K X.mg X.base CX k f fd ps sp) (hr : Room k X.A) (hb : Binds X.K fd ps ds) (hd : Vals dvs ds) (hx : Passes CX X E)
    (I : Inv X pins σ H s) (r : Vals vs us) (h : sp (vs ++ dvs) H Q E) : wpAny (model X.prog X.w) X.A (call (.ref f) us) (EP X pins σ Q) X.xe s := by
  have r2 : Vals (vs ++ dvs) (us ++ ds) := r.append hd
  have hl : (us ++ ds).length = ps.length := by rw [<- r2.length]; exact F.len _ _ _ _ h
  refine wpAny_call (codeAny_mono (F.run X.A X.stack s H ⟨us,[]⟩ (us ++ ds) (vs ++ dvs) Q E hr I.env0 (hb s us I.kIn hl) r2 h) λ r s' hq => ?_)
  cases r with
  | error e => exact hx pins σ H s e s' I hq
  | ok fl =>
    cases fl with
    | ret u => exact I.after hq
    | next => exact False.elim hq
    | brk => exact False.elim hq
    | cont => exact False.elim hq

theorem pe_call (F : FnOk X.prog X.w X.K X.mg X.base CX k f fd ps sp) (hr : Room k X.A) (hg : Gl X x) (hm : X.mg x = some (.ref f)) (hk : PySem.W.keepIn X.K (.ref f) = true) (hb : Binds X.K fd ps ds) (hd : Vals dvs ds) (hx : Passes CX X E)
    (ha : PA X (e :: es) t) (hdb : (x == ("__debug__" : Str)) = false := by decide) (he : starEach (e :: es) X.env = (false,eval e X.env) :: starEach es X.env := by rfl) (hpl : (backTo pos (starEach es X.env)).any (·.1) = false := by rfl) :
    PE X (.Call (.Name x p) (e :: es) [] pos) (tCall sp dvs E t) := by
  intro pins s σ H Q I h
  refine wpAny_Call_Name_kw (ld_glob I hg hm ?_ hdb)
  refine PySem.W.callWith_K (h₀ := X.base) I.ok.mod.kin hk (thn (ha pos pins s σ H _ I h) λ us s1 ⟨vs,H1,I1,r,q⟩ => ⟨I1.kIn,?_⟩) he hpl
  exact run_fn F hr hb hd hx I1 r q
theorem pe_meth {pl : Sem Bool} (he : PE X o ta) (c : Cls X.K C) (hm : Meth X.K C m f) (F : FnOk X.prog X.w X.K X.mg X.base CX k f fd ps sp) (hr : Room k X.A) (hb : Binds X.K fd ps ds) (hd : Vals dvs ds) (hx : Passes CX X E) (ha : PA X (e :: es) t)
    (hst : starEach (e :: es) X.env = (false,eval e X.env) :: starEach es X.env := by rfl) (hpl : (backTo pos (starEach es X.env)).any (·.1) = false := by rfl)
    (ht : eval (.Call (.Attribute o m apos) (e :: es) [] pos) X.env = (do
      let ov <- eval o X.env
      standAt apos.atName
      let (f,first) <- holding [ov] (getMethod ov m pl)
      callWith pos f first (backTo pos (starEach (e :: es) X.env)) (backToKw pos (keywordEach [] X.env))) := by rfl) :
    PE X (.Call (.Attribute o m apos) (e :: es) [] pos) (tMeth C m sp dvs E ta t) := by
  intro pins s σ H Q I h
  refine PySem.W.methodCall_KW (pl := pl) (thn (he pins s σ H _ I h) λ u s1 ⟨x,H1,I1,rx,a,dx,fs,ex,ea,l,q⟩ => ?_) ht
  subst ex
  obtain rfl : u = Value.ref a := rx
  refine getmeth_ok I1 ea c hm l ?_
  refine PySem.W.callWith_K (first := [.ref a]) (h₀ := X.base) I.ok.mod.kin hm.kp (thn (ha pos pins s1 σ H1 _ I1 q) λ us s2 ⟨vs,H2,I2,r,q2⟩ => ⟨I2.kIn,?_⟩) hst hpl
  exact run_fn (us := .ref a :: us) (vs := .ref a :: vs) F hr hb hd hx I2 (.cons rfl r) q2
theorem pe_meth0 {pl : Sem Bool} (he : PE X o ta) (c : Cls X.K C) (hm : Meth X.K C m f) (F : FnOk X.prog X.w X.K X.mg X.base CX k f fd ps sp) (hr : Room k X.A) (hb : Binds X.K fd ps ds) (hd : Vals dvs ds) (hx : Passes CX X E)
    (ht : eval (.Call (.Attribute o m apos) [] [] pos) X.env = (do
      let ov <- eval o X.env
      standAt apos.atName
      let (f,first) <- holding [ov] (getMethod ov m pl)
      callWith pos f first (backTo pos (starEach [] X.env)) (backToKw pos (keywordEach [] X.env))) := by rfl) :
    PE X (.Call (.Attribute o m apos) [] [] pos) (tMeth C m sp dvs E ta tNil) := by
  intro pins s σ H Q I h
  refine PySem.W.methodCall_KW (pl := pl) (thn (he pins s σ H _ I h) λ u s1 ⟨x,H1,I1,rx,a,dx,fs,ex,ea,l,q⟩ => ?_) ht
  subst ex
  obtain rfl : u = Value.ref a := rx
  refine getmeth_ok I1 ea c hm l ?_
  exact PySem.W.callWith_K0 (first := [.ref a]) I1.kIn hm.kp (run_fn (us := [.ref a]) (vs := [.ref a]) F hr hb hd hx I1 (.cons rfl .nil) q)

structure Mk (K : PySem.W.Frag) (C f : Addr) : Prop where
  makes : PySem.W.makesIn K C = true
  init : PySem.W.findIn K (.ref C) "__init__" = some (some (.ref f))
  fn : PySem.W.isFn K (.ref f) = true
  kp : PySem.W.keepIn K (.ref C) = true

theorem run_make {pins : List (Addr × Obj)} {σ : St} {H : Hp} {s : Shared} {Q : VK} {us : List Value} {vs : List V} (M : Mk X.K C f) (F : FnOk X.prog X.w X.K X.mg X.base CX k f fd ps sp) (hr : Room (k + 1) X.A) (hb : Binds X.K fd ps ds) (hd : Vals dvs ds)
    (hx : Passes CX X E) (I : Inv X pins σ H s) (r : Vals vs us)
    (h : ∀ x dx,H x = none -> H dx = none -> dx ≠ x -> sp (.ref x :: (vs ++ dvs)) (upd (upd H dx (.own x)) x (.ins C dx [])) (λ v H2 => v = .non /\ Q (.ref x) H2) E) :
    wpAny (model X.prog X.w) X.A (call (.ref C) us) (EP X pins σ Q) X.xe s := by
  have hq := h (s.heap.objs.size + 1) s.heap.objs.size (I.hok.fresh (Nat.le_succ _)) (I.hok.fresh (Nat.le_refl _)) (Nat.ne_of_lt (Nat.lt_succ_self _))
  have I2 := Inv.made (C := C) I
  have r2 : Vals (V.ref (s.heap.objs.size + 1) :: (vs ++ dvs)) (Value.ref (s.heap.objs.size + 1) :: (us ++ ds)) := .cons rfl (r.append hd)
  have hl : (Value.ref (s.heap.objs.size + 1) :: us ++ ds).length = ps.length := by
    have e := r2.length
    rw [F.len _ _ _ _ hq] at e
    exact e.symm
  refine wpAny_call (make_map (f := f) I.kIn M.makes M.init (beq_iff_eq.mp M.fn) (codeAny_mono (F.run _ X.stack _ _ ⟨Value.ref (s.heap.objs.size + 1) :: us,[]⟩ (Value.ref (s.heap.objs.size + 1) :: (us ++ ds)) _ _ E (hr.make C us [])
    (I2.env0.make C us []) (hb _ (Value.ref (s.heap.objs.size + 1) :: us) I2.kIn hl) r2 hq) λ r s' hq' => ?_))
  cases r with
  | error e => exact hx pins σ _ _ e s' I2 hq'
  | ok fl =>
    cases fl with
    | ret u =>
      obtain ⟨v,H',I3,rv,ev,q3⟩ := I2.after hq'
      subst ev
      exact ⟨rv,⟨V.ref (s.heap.objs.size + 1),H',I3,rfl,q3⟩⟩
    | next => exact False.elim hq'
    | brk => exact False.elim hq'
    | cont => exact False.elim hq'
theorem pe_make (M : Mk X.K C f) (F : FnOk X.prog X.w X.K X.mg X.base CX k f fd ps sp) (hr : Room (k + 1) X.A) (hg : Gl X x) (hm : X.mg x = some (.ref C)) (hb : Binds X.K fd ps ds) (hd : Vals dvs ds) (hx : Passes CX X E)
    (ha : PA X (e :: es) t) (hdb : (x == ("__debug__" : Str)) = false := by decide) (he : starEach (e :: es) X.env = (false,eval e X.env) :: starEach es X.env := by rfl) (hpl : (backTo pos (starEach es X.env)).any (·.1) = false := by rfl) :
    PE X (.Call (.Name x p) (e :: es) [] pos) (tMake C sp dvs E t) := by
  intro pins s σ H Q I h
  refine wpAny_Call_Name_kw (ld_glob I hg hm ?_ hdb)
  refine PySem.W.callWith_K (h₀ := X.base) I.ok.mod.kin M.kp (thn (ha pos pins s σ H _ I h) λ us s1 ⟨vs,H1,I1,r,q⟩ => ⟨I1.kIn,?_⟩) he hpl
  exact run_make M F hr hb hd hx I1 r q
end
section
variable {X : Cx} {CX : CXT} {k : Nat} {f C : Addr} {fd : FuncData} {ps ks : List Str} {sp : Sp} {E : XK} {x m : Str} {p pos apos kpos : Pos} {e o : Expr} {es : List Expr} {kws : List Keyword} {te ta : TE} {t tk : TA} {nm : Option Str}
variable {g : List Value -> List Value -> List Value} {gV : List V -> List V -> List V}
end
structure FnScope (N P : List Str) (sc : Scope) : Prop where
  kind : sc.kind = .function
  co : sc.isCoroutine = false
  gen : sc.isGenerator = false
  nd : N.Nodup
  pre : N.take P.length = P
  par : ∀ x ∈ P,sc.names.lookup x = some .local \/ sc.names.lookup x = some .cell
  nofree : ∀ y ∈ sc.names,y.2 ≠ .free

theorem bindL_out {kindOf : Str -> Option NameKind} {x : Str} : ∀ {binds : List (Str × Value)} {m : Str -> Option Value},(∀ v,(x,v) ∉ binds) -> bindL kindOf binds m x = m x
  | [],_,_ => rfl
  | (n,v) :: r,m,h => by
    unfold bindL
    rw [bindL_out λ w hw => h w (List.mem_cons_of_mem _ hw)]
    split
    · have : x ≠ n := by rintro rfl; exact h v List.mem_cons_self
      simp [this]
    · rfl
theorem bindC_out {kindOf : Str -> Option NameKind} {x : Str} : ∀ {binds : List (Str × Value)} {m : Str -> Option Value},(∀ v,(x,v) ∉ binds) -> bindC kindOf binds m x = m x
  | [],_,_ => rfl
  | (n,v) :: r,m,h => by
    unfold bindC
    rw [bindC_out λ w hw => h w (List.mem_cons_of_mem _ hw)]
    split
    · rfl
    · have : x ≠ n := by rintro rfl; exact h v List.mem_cons_self
      simp [this]
theorem bindL_get {kindOf : Str -> Option NameKind} {x : Str} {v : Value} : ∀ {P : List Str} {vs : List Value} {i : Nat} {m : Str -> Option Value},P.Nodup -> P[i]? = some x -> vs[i]? = some v -> kindOf x = some .local ->
    bindL kindOf (P.zip vs) m x = some v
  | [],_,_,_,_,h,_,_ => by simp at h
  | _ :: _,[],_,_,_,_,h,_ => by simp at h
  | p :: P,w :: vs,0,m,nd,h1,h2,hk => by
    simp at h1 h2; subst h1; subst h2
    show bindL kindOf ((p,w) :: P.zip vs) m p = _
    unfold bindL
    rw [bindL_out λ v hv => (List.nodup_cons.mp nd).1 (List.of_mem_zip hv).1,if_pos hk]
    simp
  | p :: P,w :: vs,i + 1,m,nd,h1,h2,hk => by
    show bindL kindOf ((p,w) :: P.zip vs) m x = _
    unfold bindL
    exact bindL_get (i := i) (List.nodup_cons.mp nd).2 (by simpa using h1) (by simpa using h2) hk
theorem bindC_get {kindOf : Str -> Option NameKind} {x : Str} {v : Value} : ∀ {P : List Str} {vs : List Value} {i : Nat} {m : Str -> Option Value},P.Nodup -> P[i]? = some x -> vs[i]? = some v -> kindOf x ≠ some .local ->
    bindC kindOf (P.zip vs) m x = some v
  | [],_,_,_,_,h,_,_ => by simp at h
  | _ :: _,[],_,_,_,_,h,_ => by simp at h
  | p :: P,w :: vs,0,m,nd,h1,h2,hk => by
    simp at h1 h2; subst h1; subst h2
    show bindC kindOf ((p,w) :: P.zip vs) m p = _
    unfold bindC
    rw [bindC_out λ v hv => (List.nodup_cons.mp nd).1 (List.of_mem_zip hv).1,if_neg hk]
    simp
  | p :: P,w :: vs,i + 1,m,nd,h1,h2,hk => by
    show bindC kindOf ((p,w) :: P.zip vs) m x = _
    unfold bindC
    exact bindC_get (i := i) (List.nodup_cons.mp nd).2 (by simpa using h1) (by simpa using h2) hk

def start (N : List Str) (vs : List V) : St := vs.map some ++ List.replicate (N.length - vs.length) none

def cxOf (CX : CXT) (P : Program) (w : World) (K : PySem.W.Frag) (mg : Str -> Option Value) (base : Heap) (N : List Str) (qual : Str) (scope : Scope) (f : Addr) (cd : Value) (A : Around) (outer : List Env) (s : Shared) (H : Hp) (E : XK) : Cx where
  prog := P
  w := w
  K := K
  mg := mg
  base := base
  A := A.deeper (envOfC qual scope s.heap.objs.size f cd)
  N := N
  s₀ := s
  H₀ := H
  env := envOfC qual scope s.heap.objs.size f cd
  outer := outer
  stack := envOfC qual scope s.heap.objs.size f cd :: outer
  ex := []
  calm := true
  fn := λ _ => true
  pn := []
  xe := λ e s' => wpAny (model P w) (A.deeper (envOfC qual scope s.heap.objs.size f cd)) (leaving (envOfC qual scope s.heap.objs.size f cd) e) (λ _ s'' => CX outer H s E e s'') (λ e' s'' => CX outer H s E e' s'') s'

theorem cell_has {sc : Scope} {n : Nat} {x : Str} (h : sc.names.lookup x = some .cell) : ∃ c,(cellsFrom n sc.names []).lookup x = some c := by
  have q := PySem.W.cellsFrom_some sc.names n [] (.inl h)
  exact Option.isSome_iff_exists.mp q

theorem inv_start {CX : CXT} {P : Program} {w : World} {K : PySem.W.Frag} {mg : Str -> Option Value} {base : Heap} {N ps : List Str} {qual : Str} {scope : Scope} {f : Addr} {cd : Value} {A : Around} {outer : List Env} {s s1 : Shared} {H : Hp} {E : XK} {us : List Value} {vs : List V}
    (S : FnScope N ps scope) (hd : A.handled = none) (e0 : Env0 P w K mg base A outer s H) (hl : vs.length = ps.length) (r : Vals vs us)
    (x : InCallC s s.heap.objs.size (bindL (envOfC qual scope s.heap.objs.size f cd).kindOf (ps.zip us) λ _ => none) (cellsFrom (s.heap.objs.size + 1) scope.names []) (bindC (envOfC qual scope s.heap.objs.size f cd).kindOf (ps.zip us) λ _ => none) s1) :
    Inv (cxOf CX P w K mg base N qual scope f cd A outer s H E) [] (start N vs) H s1 := by
  have hpl : ps.length <= N.length := by have := congrArg List.length S.pre; rw [List.length_take] at this; omega
  obtain ⟨h1,tk,rfl,hk⟩ := x.done
  have noA : ∀ b : Addr,b ∉ (cxOf CX P w K mg base N qual scope f cd A outer s H E).ex := λ b z => absurd (show b ∈ ([] : List Addr) from z) (by simp)
  refine ⟨⟨e0.mod,S.kind,rfl,rfl,Nat.le_refl _,λ y z c h1 h2 => ?_,λ y hy => ?_,λ y c _ h => ?_,λ _ => hd,Around.frames_deeper e0.frames,.inr ⟨rfl,rfl⟩,λ b z => absurd z (noA b),e0.bs,e0.bsz,λ b _ _ => noA b,λ b z => absurd z (noA b),e0.funs,e0.frf⟩,
    rfl,e0.bare,Un.kept hk,⟨_,x.toInCall.ns,λ i y v h1 h2 h3 => ?_⟩,λ y c h => ⟨_,x.cell y c h⟩,e0.hok.fresh (Nat.le_refl _),λ y c h => ?_,λ p hp => absurd (show p ∈ ([] : List (Addr × Obj)) from hp) (by simp),e0.hok.kept hk,?_⟩
  · exact name_of_addr x.apart (PySem.mem_of_lookup h1) (PySem.mem_of_lookup h2)
  · have hy : scope.names.lookup y = some .cell \/ scope.names.lookup y = some .free := hy
    rcases hy with hy | hy
    · exact cell_has hy
    · exact absurd rfl (S.nofree _ (PySem.mem_of_lookup hy))
  · exact Nat.le_of_lt (x.above y c (PySem.mem_of_lookup h))
  · have hi : i < vs.length := by
      unfold start at h2
      by_cases hi : i < vs.length
      · exact hi
      · rw [List.getElem?_append_right (by simpa using hi)] at h2
        rw [List.getElem?_replicate] at h2
        split at h2 <;> cases h2
    have ha : vs[i]? = some v := by
      unfold start at h2
      rw [List.getElem?_append_left (by simpa using hi),List.getElem?_map] at h2
      cases e : vs[i]? with
      | none => rw [e] at h2; cases h2
      | some a => rw [e] at h2; cases h2; rfl
    obtain ⟨u,hu,rv⟩ := r.get ha
    have hp : ps[i]? = some y := by
      rw [<- S.pre,List.getElem?_take_of_lt (by omega)]; exact h1
    have ndP : ps.Nodup := by rw [<- S.pre]; exact S.nd.sublist (List.take_sublist _ _)
    refine ⟨u,rv,?_⟩
    rcases S.par y (List.mem_of_getElem? hp) with k | k
    · exact .inl ⟨k,bindL_get ndP hp hu k⟩
    · obtain ⟨c,e⟩ := cell_has (n := s.heap.objs.size + 1) k
      refine .inr ⟨.inl k,c,e,?_⟩
      have q := x.cell y c e
      rw [bindC_get ndP hp hu (by show scope.names.lookup y ≠ _; rw [k]; decide)] at q
      exact q
  · exact e0.hok.fresh (Nat.le_of_lt (x.above y c (PySem.mem_of_lookup h)))
  · unfold start
    show _ = N.length
    rw [List.length_append,List.length_map,List.length_replicate]
    omega

theorem fn_of {CX : CXT} {P : Program} {w : World} {K : PySem.W.Frag} {mg : Str -> Option Value} {base : Heap} {k : Nat} {f : Addr} {name qual : Str} {params : Arguments} {body : List Stmt} {scope : Scope} {dV kV doc pm cdv ct oc : Value} {an od : Option Addr}
    {osl : Array (Option Value)} {N ps : List Str} {sp : Sp} (lk : K.lookup f = some ⟨oc,od,.func (PySem.W.fnOf name qual params body scope dV kV doc pm an cdv ct),osl⟩) (hcd : PySem.W.codeIn K cdv qual = true) (S : FnScope N ps scope)
    (len : ∀ vs H Q E,sp vs H Q E -> vs.length = ps.length)
    (hbody : ∀ (A : Around) (outer : List Env) (s : Shared) (H : Hp) (vs : List V) (Q : VK) (E : XK),Room k (A.deeper (envOfC qual scope s.heap.objs.size f cdv)) -> sp vs H Q E ->
      ∃ t,PSs (cxOf CX P w K mg base N qual scope f cdv A outer s H E) body t /\ t { nx := λ _ H' => Q .non H',rt := Q } (start N vs) H) :
    FnOk P w K mg base CX (k + 1) f (PySem.W.fnOf name qual params body scope dV kV doc pm an cdv ct) ps sp := by
  refine ⟨len,λ A outer s H args us vs Q E hr e0 hb r hsp => ?_⟩
  have hl := len _ _ _ _ hsp
  have KX : K.In s.heap := e0.mod.kin.keeps λ b o e => (e0.bs b o e).1
  have lim : s.heap.NoLimit := e0.mod.nolimit.keeps λ b o e => (e0.bs b o e).1
  have hkind : ∀ y ∈ ps.zip us,scope.names.lookup y.1 = some .local \/ (scope.names.lookup y.1 = some .cell /\ ((cellsFrom (s.heap.objs.size + 1) scope.names []).lookup y.1).isSome = true) := λ ⟨n,v⟩ hy => by
    rcases S.par n (List.of_mem_zip hy).1 with q | q
    · exact .inl q
    · exact .inr ⟨q,PySem.W.cellsFrom_some _ _ _ (.inl q)⟩
  refine codeAny_call_function hr.depth (KX _ _ lk) rfl S.co S.gen rfl (PySem.W.codeRec_of KX hcd) (hb _ _ _ _ ?_)
  refine wpAny_newFunctionEnv_cells S.kind hkind λ env he s1 x => ?_
  subst he
  refine ⟨lim.keeps x.toInCall.keep,codeAny_func ?_⟩
  obtain ⟨t,ht,hq⟩ := hbody A outer s H vs Q E (hr.deeper _) hsp
  have I : Inv (cxOf CX P w K mg base N qual scope f cdv A outer s H E) [] (start N vs) H s1 := inv_start S hr.hd e0 hl r x
  refine wpAny_mono (ht [] s1 (start N vs) H _ I hq) (λ fl s' hs => ?_) λ e s' hs => hs
  have fin : ∀ {σ' : St} {H' : Hp} {v : V} {u : Value},Inv (cxOf CX P w K mg base N qual scope f cdv A outer s H E) [] σ' H' s' -> RelV v u -> Q v H' -> CE outer P w H s Q u s' :=
    λ {σ' H' v u} J rv q => ⟨v,H',J.os,J.bare,J.base,J.hok,rv,q⟩
  cases fl with
  | ret u =>
    obtain ⟨v,σ',H',J,rv,q⟩ := hs
    exact fin J rv q
  | next =>
    obtain ⟨σ',H',J,q⟩ := hs
    exact fin (v := V.non) (u := Value.none) J rfl q
  | brk =>
    obtain ⟨_,_,_,q⟩ := hs
    exact False.elim q
  | cont =>
    obtain ⟨_,_,_,q⟩ := hs
    exact False.elim q
end L2
namespace L2
open PySem PySem.Spec PyProof.Rows
section
variable {X : Cx} {x : Str} {p pos : Pos} {e : Expr} {es : List Expr} {t : TA} {id T : String} {r : List V -> Hp -> VK -> Prop}
def tCB (r : List V -> Hp -> VK -> Prop) (t : TA) : TE := λ σ H Q => t σ H λ vs H1 => r vs H1 Q
theorem pe_callB (hc : CallR X (.builtin id) r) (hg : Gl X x) (hm : X.mg x = none) (hv : bootBuiltins x = some (.builtin id)) (ha : PA X (e :: es) t) (hn : x ≠ "__name__" := by decide) (hdb : (x == ("__debug__" : Str)) = false := by decide)
    (he : starEach (e :: es) X.env = (false,eval e X.env) :: starEach es X.env := by rfl) (hpl : (backTo pos (starEach es X.env)).any (·.1) = false := by rfl) : PE X (.Call (.Name x p) (e :: es) [] pos) (tCB r t) := by
  intro pins s σ H Q I h
  refine wpAny_Call_Name_kw (ld_blt I hg hm hv ?_ hn hdb)
  exact PyProof.Rows.callWith_builtin1 (thn (ha pos pins s σ H _ I h) λ us s1 ⟨vs,H1,I1,r1,q1⟩ => hc pins s1 σ H1 vs us Q I1 r1 q1) he hpl
theorem pe_callTy (hc : CallR X (.type T) r) (hg : Gl X x) (hm : X.mg x = none) (hv : bootBuiltins x = some (.type T)) (ha : PA X (e :: es) t) (hn : x ≠ "__name__" := by decide) (hdb : (x == ("__debug__" : Str)) = false := by decide)
    (he : starEach (e :: es) X.env = (false,eval e X.env) :: starEach es X.env := by rfl) (hpl : (backTo pos (starEach es X.env)).any (·.1) = false := by rfl) : PE X (.Call (.Name x p) (e :: es) [] pos) (tCB r t) := by
  intro pins s σ H Q I h
  refine wpAny_Call_Name_kw (ld_blt I hg hm hv ?_ hn hdb)
  exact PyProof.Rows.callWith_type1 (thn (ha pos pins s σ H _ I h) λ us s1 ⟨vs,H1,I1,r1,q1⟩ => hc pins s1 σ H1 vs us Q I1 r1 q1) he hpl
end
end L2
namespace HT
open PySem PyProof.Rows
section
open PySem.SeqAt
open PySem.AutoSeq1 (wpAny_loadPart')
open PySem.MeetsSeq PySem.MeetsSeq2 PySem.MeetsSeq3
end
section
variable {prog : Program} {w : World} {A : Around} {E : Value -> Shared -> Prop} {s : Shared}
theorem cat_tup {t b : Addr} {vs ws : List Value} {Q : Value -> Shared -> Prop} (ht : IsTup s.heap t vs.toArray) (hb : IsTup s.heap b ws.toArray) (hv : vs ≠ [])
    (h1 : ws = [] -> Q (.ref t) s) (h2 : ws ≠ [] -> Q (.ref s.heap.objs.size) { s with heap := s.heap.push { cls := .type "tuple",data := .seq (vs ++ ws).toArray } })
    (hsz : vs.length + ws.length <= sizeLine) : wpAny (model prog w) A (binaryOp .Add (.ref t) (.ref b)) Q E s := by
  obtain ⟨⟨cls,dd,data,sl⟩,ho,hc,n,hd⟩ := id ht
  obtain ⟨⟨cls2,dd2,data2,sl2⟩,ho2,hc2,n2,hd2⟩ := id hb
  simp only at hc hd hc2 hd2
  subst hc hd hc2 hd2
  have e : vs.toArray ++ ws.toArray = (vs ++ ws).toArray := by simp
  by_cases hw : ws = []
  · exact concat_meets ⟨_,ho,rfl⟩ ⟨_,ho2,rfl⟩ noFill_tuple_add seq_tuple_add PySem.F.slot_tuple_add PySem.F.entry_tuple_add (PySem.F.args_tuple_add_2 _ _)
      (tuple_addW1 t b vs.toArray ws.toArray n n2 dd dd2 sl sl2 (by simpa using hv) (by simp [hw])) ⟨ho,ho2,h1 hw⟩
  · refine concat_meets ⟨_,ho,rfl⟩ ⟨_,ho2,rfl⟩ noFill_tuple_add seq_tuple_add PySem.F.slot_tuple_add PySem.F.entry_tuple_add (PySem.F.args_tuple_add_2 _ _)
      (tuple_addW2 t b vs.toArray ws.toArray n n2 dd dd2 sl sl2 (by simpa using hv) (by simpa using hw) (by rw [List.size_toArray,List.size_toArray]; exact hsz)) ⟨ho,ho2,?_⟩
    rw [e]
    exact h2 hw

def sIx (n d : Nat) : Option Int -> Nat
  | none => d
  | some v => if v < 0 then (v + (n : Int)).toNat else min v.toNat n
theorem sIx_le (n d : Nat) (hd : d <= n) (o : Option Int) : sIx n d o <= n := by
  cases o with
  | none => exact hd
  | some v =>
    show (if v < 0 then (v + (n : Int)).toNat else min v.toNat n) <= n
    by_cases hv : v < 0
    · rw [if_pos hv]; omega
    · rw [if_neg hv]; exact Nat.min_le_right _ _
theorem clip_eq (v : Int) (n d : Nat) : (if v < 0 then max (v + (n : Int)) 0 else min v (n : Int)) = ((sIx n d (some v) : Nat) : Int) := by
  show (if v < 0 then max (v + (n : Int)) 0 else min v (n : Int)) = (((if v < 0 then (v + (n : Int)).toNat else min v.toNat n) : Nat) : Int)
  by_cases hv : v < 0
  · simp only [if_pos hv]; omega
  · simp only [if_neg hv]; omega
theorem adjust_gen (lo hi : Option Int) (n : Nat) : Builtin.Slice.sliceAdjust lo hi 1 (n : Int) = (((sIx n 0 lo : Nat) : Int),((sIx n n hi : Nat) : Int)) := by
  have h1 : ¬ ((1 : Int) < 0) := by omega
  unfold Builtin.Slice.sliceAdjust
  simp only [h1,if_false]
  refine Prod.ext ?_ ?_
  · cases lo with
    | none => rfl
    | some v => exact clip_eq v n 0
  · cases hi with
    | none => rfl
    | some v => exact clip_eq v n n
theorem places_gen (i j : Nat) : Builtin.Slice.slicePlaces (i : Int) (j : Int) 1 = j - i := by
  unfold Builtin.Slice.slicePlaces
  have h1 : (1 : Int) > 0 := by omega
  simp only [h1,if_true,Int.ediv_one]
  split <;> omega
theorem slicePart_ {v : Value} {o : Option Int} {Q : Option Int -> Shared -> Prop} (p : IsPart v o) (h : Q o s) : wpAny (model prog w) A (Builtin.Slice.slicePartIndex v) Q E s := by
  cases p with
  | none => exact slicePart_none h
  | int i t => exact slicePart_int h
theorem sliceApplied_gen {sl : Addr} {vl vu : Value} {lo hi : Option Int} {n : Nat} {Q : Int × Int × Nat -> Shared -> Prop} (hs : s.heap.IsSliceOf sl vl vu .none) (pl : IsPart vl lo) (pu : IsPart vu hi)
    (h : Q (((sIx n 0 lo : Nat) : Int),1,sIx n n hi - sIx n 0 lo) s) : wpAny (model prog w) A (Builtin.Slice.sliceApplied (.ref sl) (pure (n : Int))) Q E s := by
  obtain ⟨os,hos,hcs,hds⟩ := id hs
  unfold Builtin.Slice.sliceApplied Builtin.Slice.sliceFields
  refine wpAny_bind (wpAny_bind (wpAny_field hos hds (x := vl) rfl (wpAny_bind (wpAny_field hos hds (x := vu) rfl (wpAny_bind (wpAny_field hos hds (x := .none) rfl (wpAny_pure ?_)))))))
  refine wpAny_bind (slicePart_none ?_)
  show wpAny _ _ (if ((1 : Int) == 0) = true then _ else _) _ _ s
  rw [if_neg (by decide)]
  refine wpAny_bind (slicePart_ pl (wpAny_bind (slicePart_ pu (wpAny_bind (wpAny_pure ?_)))))
  show wpAny _ _ (match Builtin.Slice.sliceAdjust lo hi 1 (n : Int) with | (lo,hi) => pure (lo,(1 : Int),Builtin.Slice.slicePlaces lo hi 1)) _ _ s
  rw [adjust_gen lo hi n]
  show wpAny _ _ (pure (((sIx n 0 lo : Nat) : Int),(1 : Int),Builtin.Slice.slicePlaces ((sIx n 0 lo : Nat) : Int) ((sIx n n hi : Nat) : Int) 1)) _ _ s
  rw [places_gen]
  exact wpAny_pure h
theorem pick_gen (xs : Array Value) (i k : Nat) : ((List.range k).filterMap λ (m : Nat) => xs[((i : Int) + (m : Int) * 1).toNat]?).toArray = ((xs.toList.drop i).take k).toArray := by
  have e : (λ (m : Nat) => xs[((i : Int) + (m : Int) * 1).toNat]?) = λ m => xs[i + m]? := by
    funext m
    have : ((i : Int) + (m : Int) * 1).toNat = i + m := by omega
    rw [this]
  rw [e]
  have := pick_run xs i k
  rw [List.filterMap_map] at this
  have e2 : ((λ x => xs[x]?) ∘ λ x => i + x) = λ m => xs[i + m]? := rfl
  rw [e2] at this
  rw [this]

theorem getItem_tuple_cut {t sl : Addr} {items : Array Value} {vl vu : Value} {lo hi : Option Int} {Q : Value -> Shared -> Prop} (ht : IsTup s.heap t items) (hs : s.heap.IsSliceOf sl vl vu .none) (pl : IsPart vl lo) (pu : IsPart vu hi)
    (hw : ¬ (sIx items.size 0 lo = 0 /\ sIx items.size items.size hi = items.size))
    (h : Q (.ref s.heap.objs.size) { s with heap := s.heap.push { cls := .type "tuple",data := .seq ((items.toList.drop (sIx items.size 0 lo)).take (sIx items.size items.size hi - sIx items.size 0 lo)).toArray } })
    (hsz : items.size <= sizeLine) : wpAny (model prog w) A (getItem (.ref t) (.ref sl)) Q E s := by
  have htake : sizeOk (.seq ((items.toList.drop (sIx items.size 0 lo)).take (sIx items.size items.size hi - sIx items.size 0 lo)).toArray) := by
    show ((items.toList.drop (sIx items.size 0 lo)).take (sIx items.size items.size hi - sIx items.size 0 lo)).toArray.size <= sizeLine
    rw [List.size_toArray,List.length_take,List.length_drop,Array.length_toList]
    omega
  have hj : sIx items.size items.size hi <= items.size := sIx_le _ _ (Nat.le_refl _) hi
  obtain ⟨os,hos,hcs,hds⟩ := id hs
  have hTs : s.TypeIs (.ref sl) "slice" := ⟨os,hos,hcs⟩
  unfold getItem
  try with_reducible refine wpAny_holding ?_
  first | refine wpAny_bind (wpAny_pure ?_) | skip
  refine wpAny_bind (wpAny_sequenceKey ht.typeIs (by decide) ?_)
  refine wpAny_bind (wpAny_callSpecial?_slot (name := Str.ofString "__getitem__") ht.typeIs PyProof.Rows.slot_tuple_getitem
    (wpAny_call_entry PyProof.Rows.slot_tuple_getitem ht.typeIs entry_tuple_getitem ?_ (args_tuple_getitem _ _)))
  show wpAny _ _ (Builtin.Tuple.tupleItemsOf (.ref t) >>= _) _ _ s
  refine wpAny_bind (tupleItemsOf_ ht ?_)
  refine wpAny_bind (wpAny_typeOf hTs ?_)
  rw [if_pos (by decide)]
  refine wpAny_bind (sliceApplied_gen hs pl pu ?_)
  have hno : ¬ ((((sIx items.size 0 lo : Nat) : Int) == 0 && (1 : Int) == 1 && (sIx items.size items.size hi - sIx items.size 0 lo) == items.size) = true) := by
    intro q
    rw [Bool.and_eq_true,Bool.and_eq_true] at q
    have q1 : ((sIx items.size 0 lo : Nat) : Int) = 0 := eq_of_beq q.1.1
    have q2 : sIx items.size items.size hi - sIx items.size 0 lo = items.size := eq_of_beq q.2
    exact hw ⟨by omega,by omega⟩
  show wpAny _ _ (if (((sIx items.size 0 lo : Nat) : Int) == 0 && (1 : Int) == 1 && (sIx items.size items.size hi - sIx items.size 0 lo) == items.size) = true then _ else _) _ _ s
  rw [if_neg hno,pick_gen]
  first
    | exact wpAny_bind (m := Builtin.Tuple.tupleExact _) (wpAny_newObj_type (wpAny_pure ⟨_,rfl,wpAny_pure h⟩) htake)
    | exact wpAny_bind (m := Builtin.Tuple.tupleExact _) (wpAny_newObj_type (wpAny_bind (wpAny_pure (wpAny_pure ⟨_,rfl,wpAny_pure h⟩))) htake)
    | exact wpAny_bind (wpAny_bind (m := Builtin.Tuple.tupleExact _) (wpAny_newObj_type (wpAny_pure (wpAny_pure ⟨_,rfl,wpAny_pure h⟩)) htake))
    | exact wpAny_bind (wpAny_bind (m := Builtin.Tuple.tupleExact _) (wpAny_newObj_type (wpAny_pure ⟨_,rfl,wpAny_pure h⟩) htake))
end
end HT
namespace L2
open PySem PySem.Spec PyProof.Rows
abbrev TO := St -> Hp -> (Option Int -> Hp -> Prop) -> Prop
def PO (X : Cx) (e : Option Expr) (t : TO) : Prop :=
  ∀ (pins : List (Addr × Obj)) (s : Shared) (σ : St) (H : Hp) (Q : Option Int -> Hp -> Prop),Inv X pins σ H s -> t σ H Q ->
    wpAny (model X.prog X.w) X.A (evalPart e X.env) (λ u s' => ∃ o H',Inv X pins σ H' s' /\ IsPart u o /\ Q o H') X.xe s
def tNoPart : TO := λ _ H Q => Q none H
def tPart (t : TE) : TO := λ σ H Q => t σ H λ x H1 => ∃ i,x = .int i /\ Q (some i) H1

theorem intsAre_of {ns : List Int} : ∀ {us : List Value},Vals (ns.map V.int) us -> IntsAre us ns := by
  induction ns with
  | nil => intro us r; rw [List.map_nil] at r; cases r; exact .nil
  | cons n ns ih =>
    intro us r
    rw [List.map_cons] at r
    cases r with
    | cons r1 r2 =>
      obtain ⟨t,e⟩ := r1
      subst e
      exact .cons n t (ih r2)

section
variable {X : Cx} {e : Expr} {te : TE} {lo hi : Option Expr} {tl th : TO} {pos p2 : Pos}
theorem po_none : PO X none tNoPart := by
  intro pins s σ H Q I h
  rw [evalPart_none]
  exact wpAny_pure ⟨none,H,I,.none,h⟩
theorem po_some (h : PE X e te) : PO X (some e) (tPart te) := by
  intro pins s σ H Q I hw
  rw [evalPart_some]
  refine thn (h pins s σ H _ I hw) λ u s1 hq22 => ?_
  obtain ⟨x,H1,I1,r1,q1⟩ := hq22
  obtain ⟨i,rfl,q⟩ := q1
  obtain ⟨t,rfl⟩ := r1
  exact ⟨some i,H1,I1,.int i t,q⟩

def SlR (X : Cx) (r : V -> Option Int -> Option Int -> Hp -> VK -> Prop) : Prop :=
  ∀ (pins : List (Addr × Obj)) (s : Shared) (σ : St) (H : Hp) (x : V) (v vl vu : Value) (lo hi : Option Int) (sl : Addr) (Q : VK),Inv X pins σ H s -> RelV x v -> s.heap.IsSliceOf sl vl vu .none -> IsPart vl lo -> IsPart vu hi -> r x lo hi H Q ->
    ∃ T id,typeLookup (.type T) "__getitem__" = pure (some (.builtin id)) /\ s.TypeIs v T /\ wpAny (model X.prog X.w) X.A (getItem v (.ref sl)) (EP X pins σ Q) X.xe s
theorem SlR.or {r r' : V -> Option Int -> Option Int -> Hp -> VK -> Prop} (h : SlR X r) (h' : SlR X r') : SlR X (λ x lo hi H Q => r x lo hi H Q \/ r' x lo hi H Q) := by
  intro pins s σ H x v vl vu lo hi sl Q I rx hs pl pu q
  rcases q with q | q
  · exact h pins s σ H x v vl vu lo hi sl Q I rx hs pl pu q
  · exact h' pins s σ H x v vl vu lo hi sl Q I rx hs pl pu q
def tSl (r : V -> Option Int -> Option Int -> Hp -> VK -> Prop) (te : TE) (tl th : TO) : TE := λ σ H Q => te σ H λ x H1 => tl σ H1 λ l H2 => th σ H2 λ u H3 => r x l u H3 Q
theorem pe_slice {r : V -> Option Int -> Option Int -> Hp -> VK -> Prop} (hr : SlR X r) (he : PE X e te) (hl : PO X lo tl) (hu : PO X hi th) : PE X (.Subscript e (.Slice lo hi none p2) pos) (tSl r te tl th) := by
  intro pins s σ H Q I h
  refine Subscript_ (thn (he pins s σ H _ I h) λ v s1 hq23 => ?_)
  obtain ⟨x,H1,I1,r1,q1⟩ := hq23
  refine wpAny_Slice (thn (hl pins s1 σ H1 _ I1 q1) λ vl s2 ⟨l,H2,I2,pl,q2⟩ => thn (hu pins s2 σ H2 _ I2 q2) λ vu s3 hq24 => ?_)
  obtain ⟨u,H3,I3,pu,q3⟩ := hq24
  rw [evalPart_none]
  refine wpAny_pure ?_
  have I4 : Inv X pins σ H3 { s3 with heap := s3.heap.push { cls := .type "slice",data := .fields #[vl,vu,.none] } } := I3.kept (t' := s3.toks) λ b ob q => Heap.get?_push_of_some _ q
  obtain ⟨T,id,hT,ht,hg⟩ := hr pins { s3 with heap := s3.heap.push { cls := .type "slice",data := .fields #[vl,vu,.none] } } σ H3 x v vl vu l u s3.heap.objs.size Q I4 r1 (Heap.IsSliceOf.new ..) pl pu q3
  show wpAny (model X.prog X.w) X.A (subscriptTail e (.Slice lo hi none p2) v (.ref s3.heap.objs.size)) (EP X pins σ Q) X.xe { s3 with heap := s3.heap.push { cls := .type "slice",data := .fields #[vl,vu,.none] } }
  exact tail_any (ops := [.ref s3.heap.objs.size,v]) ht hT hg (by with_unfolding_all rfl)

def cutV (xs : List V) (lo hi : Option Int) : List V := (xs.drop (HT.sIx xs.length 0 lo)).take (HT.sIx xs.length xs.length hi - HT.sIx xs.length 0 lo)
theorem cutV_length (xs : List V) (lo hi : Option Int) : (cutV xs lo hi).length <= xs.length := by
  unfold cutV
  rw [List.length_take,List.length_drop]
  omega
def rSlT (K : PySem.W.Frag) : V -> Option Int -> Option Int -> Hp -> VK -> Prop := λ x lo hi H Q => ∃ a xs,x = .ref a /\ SqT K H a xs /\
  ¬ (HT.sIx xs.length 0 lo = 0 /\ HT.sIx xs.length xs.length hi = xs.length) /\ ∀ p,H p = none -> Q (.ref p) (upd H p (.tup (cutV xs lo hi)))
theorem sl_tup : SlR X (rSlT X.K) := by
  intro pins s σ H x v vl vu lo hi sl Q I rx hs pl pu h
  obtain ⟨a,xs,rfl,hx,hw,q⟩ := h
  cases rx
  obtain ⟨its,r,ht,hz⟩ := I.tuple hx
  have hlen : its.toArray.size = xs.length := by rw [List.size_toArray]; exact r.length.symm
  refine ⟨"tuple",_,PyProof.Rows.slot_tuple_getitem.lookup,ht.typeIs,?_⟩
  refine HT.getItem_tuple_cut ht hs pl pu (by rw [hlen]; exact hw) ?_ (by rw [hlen]; exact hz)
  rw [hlen]
  refine ⟨.ref s.heap.objs.size,_,I.laid (t' := s.toks) (o := .tup (cutV xs lo hi)) (λ b ob q => Heap.get?_push_of_some _ q) (Nat.le_refl _) ?_,rfl,q _ (I.hok.fresh (Nat.le_refl _))⟩
  exact ⟨Nat.le_trans (cutV_length xs lo hi) hz,_,(r.drop (HT.sIx xs.length 0 lo)).take (HT.sIx xs.length xs.length hi - HT.sIx xs.length 0 lo),IsTup.new _ _⟩

def rCatT (K : PySem.W.Frag) : R2 := λ x y H Q => ∃ a b xs ys,x = .ref a /\ y = .ref b /\ SqT K H a xs /\ SqT K H b ys /\ xs ≠ [] /\ xs.length + ys.length <= sizeLine /\
  (ys = [] -> Q (.ref a) H) /\ (ys ≠ [] -> ∀ p,H p = none -> Q (.ref p) (upd H p (.tup (xs ++ ys))))
theorem Vals.nil_iff {xs : List V} {us : List Value} (r : Vals xs us) : us = [] ↔ xs = [] := by
  cases r with
  | nil => simp
  | cons _ _ => simp
theorem op_catT : OpR X (binaryOp .Add) (rCatT X.K) := by
  intro pins s σ H x y v u Q I rx ry h
  obtain ⟨a,b,xs,ys,rfl,rfl,ha,hb,hx,hz,q1,q2⟩ := h
  cases rx
  cases ry
  obtain ⟨its,r1,p1,_⟩ := I.tuple ha
  obtain ⟨its2,r2,p2,_⟩ := I.tuple hb
  refine HT.cat_tup p1 p2 (λ z => hx (r1.nil_iff.mp z)) (λ z => ⟨.ref a,H,I,rfl,q1 (r2.nil_iff.mp z)⟩) (λ z => ?_) (by rw [<- r1.length,<- r2.length]; exact hz)
  refine ⟨.ref s.heap.objs.size,_,I.laid (t' := s.toks) (o := .tup (xs ++ ys)) (λ b ob q => Heap.get?_push_of_some _ q) (Nat.le_refl _) ?_,rfl,q2 (λ w => z (r2.nil_iff.mpr w)) _ (I.hok.fresh (Nat.le_refl _))⟩
  exact ⟨by rw [List.length_append]; exact hz,_,r1.append r2,IsTup.new _ _⟩
end
end L2
namespace L2
open PySem PySem.Spec PyProof.Rows
def ixN (n : Nat) (i : Int) : Option Nat := if 0 <= i then (if i < n then some i.toNat else none) else if -(n : Int) <= i then some (i + n).toNat else none
def atI {α : Type} (xs : List α) (i : Int) : Option α := (ixN xs.length i).bind λ j => xs[j]?
theorem ixN_seq {n : Nat} {i : Int} {j : Nat} (h : ixN n i = some j) : seqIndex? i n = some j /\ j < n /\ -(n : Int) <= i /\ i < n := by
  unfold ixN at h
  by_cases h0 : 0 <= i
  · rw [if_pos h0] at h
    by_cases h1 : i < n
    · rw [if_pos h1] at h
      have e : i.toNat = j := Option.some.inj h
      exact ⟨by rw [seqIndex_of h0 h1,e],by omega,by omega,h1⟩
    · rw [if_neg h1] at h; cases h
  · rw [if_neg h0] at h
    by_cases h1 : -(n : Int) <= i
    · rw [if_pos h1] at h
      have e : (i + n).toNat = j := Option.some.inj h
      exact ⟨by rw [seqIndex_neg (by omega) h1,e],by omega,h1,by omega⟩
    · rw [if_neg h1] at h; cases h
theorem atI_get {α : Type} {xs : List α} {i : Int} {v : α} (h : atI xs i = some v) : ∃ j,seqIndex? i xs.length = some j /\ xs[j]? = some v /\ j < xs.length /\ -(xs.length : Int) <= i /\ i < xs.length := by
  unfold atI at h
  cases e : ixN xs.length i with
  | none => rw [e] at h; cases h
  | some j =>
    rw [e] at h
    obtain ⟨h1,h2,h3,h4⟩ := ixN_seq e
    exact ⟨j,h1,h,h2,h3,h4⟩
def PlainIx (b : Expr) : Prop := ∀ o i,subscripted b false o i = operate [o,i] (getItem o i)
def IxR (X : Cx) (r : R2) : Prop :=
  ∀ (value slice : Expr) (pins : List (Addr × Obj)) (s : Shared) (σ : St) (H : Hp) (x y : V) (v u : Value) (Q : VK),Inv X pins σ H s -> RelV x v -> RelV y u -> r x y H Q ->
    subscripted slice false v u = operate [v,u] (getItem v u) -> wpAny (model X.prog X.w) X.A (subscriptTail value slice v u) (EP X pins σ Q) X.xe s
def MtR (X : Cx) (id : String) (r : V -> List V -> Hp -> VK -> Prop) : Prop :=
  ∀ (pins : List (Addr × Obj)) (s : Shared) (σ : St) (H : Hp) (x : V) (xs : List V) (v : Value) (us : List Value) (Q : VK),Inv X pins σ H s -> RelV x v -> Vals xs us -> r x xs H Q ->
    wpAny (model X.prog X.w) X.A (call (.builtin id) (v :: us)) (EP X pins σ Q) X.xe s
section
variable {X : Cx} {a b : Expr} {ta tb : TE} {pos : Pos}
theorem IxR.or {r r' : R2} (h : IxR X r) (h' : IxR X r') : IxR X (λ x y H Q => r x y H Q \/ r' x y H Q) := by
  intro value slice pins s σ H x y v u Q I rx ry q hs
  rcases q with q | q
  · exact h value slice pins s σ H x y v u Q I rx ry q hs
  · exact h' value slice pins s σ H x y v u Q I rx ry q hs
theorem pe_ix {r : R2} (hr : IxR X r) (ha : PE X a ta) (hb : PE X b tb) (hs : PlainIx b) : PE X (.Subscript a b pos) (tOp r ta tb) := by
  intro pins s σ H Q I h
  exact Subscript_ (binT ha hb I h λ v u s2 x y H2 I2 rx ry q => hr a b pins s2 σ H2 x y v u Q I2 rx ry q (hs _ _))

def rIxL (K : PySem.W.Frag) : R2 := λ x y H Q => ∃ p xs i v,x = .ref p /\ y = .int i /\ SqL K H p xs /\ atI xs i = some v /\ Q v H
def rIxT (K : PySem.W.Frag) : R2 := λ x y H Q => ∃ p xs i v,x = .ref p /\ y = .int i /\ SqT K H p xs /\ atI xs i = some v /\ Q v H
def rIxS : R2 := λ x y H Q => ∃ z i c,x = .str z /\ y = .int i /\ z.length <= sizeLine /\ atI z.cps.toList i = some c /\ Q (.str ⟨#[c]⟩) H
theorem ix_list : IxR X (rIxL X.K) := by
  intro value slice pins s σ H x y v u Q I rx ry h hs
  obtain ⟨p,xs,i,z,rfl,rfl,hq,he,q⟩ := h
  cases rx
  obtain ⟨t,rfl⟩ := ry
  obtain ⟨its,r,pl,hz⟩ := I.list hq
  obtain ⟨j,h1,h2,h3,h4,h5⟩ := atI_get he
  obtain ⟨w,ew,rw'⟩ := r.get h2
  have hl := r.length
  have hn := line63
  have fin : EP X pins σ Q w s := ⟨z,H,I,rw',q⟩
  by_cases h0 : 0 <= i
  · have hj : i.toNat = j := by
      rw [seqIndex_of h0 h5] at h1
      exact Option.some.inj h1
    exact item_listR pl.isList h0 (by omega) (by rw [hj]; simpa using ew) fin hs
  · have hj : (i + (its.toArray.size : Int)).toNat = j := by
      rw [seqIndex_neg (by omega) h4] at h1
      rw [List.size_toArray,<- hl]
      exact Option.some.inj h1
    exact subscriptTail_builtinR (x := w) pl.isList.typeIs slot_list_getitem.lookup
      (wpAny_getItem_list_neg (Q := λ r s' => r = w /\ EP X pins σ Q r s') pl.isList (by omega) (by rw [List.size_toArray] <;> omega) (by omega) (by rw [hj]; simpa using ew) ⟨rfl,fin⟩) hs
theorem ix_tup : IxR X (rIxT X.K) := by
  intro value slice pins s σ H x y v u Q I rx ry h hs
  obtain ⟨p,xs,i,z,rfl,rfl,hq,he,q⟩ := h
  cases rx
  obtain ⟨t,rfl⟩ := ry
  obtain ⟨its,r,pl,hz⟩ := I.tuple hq
  obtain ⟨j,h1,h2,h3,h4,h5⟩ := atI_get he
  obtain ⟨w,ew,rw'⟩ := r.get h2
  have hl := r.length
  have hn := line63
  have fin : EP X pins σ Q w s := ⟨z,H,I,rw',q⟩
  exact subscriptTail_builtinR (x := w) pl.typeIs slot_tuple_getitem.lookup
    (getItem_tuple (j := j) (Q := λ r s' => r = w /\ EP X pins σ Q r s') pl (by omega) (by omega) (by rw [List.size_toArray,<- hl]; exact h1) (by simpa using ew) ⟨rfl,fin⟩) hs
theorem ix_str : IxR X rIxS := by
  intro value slice pins s σ H x y v u Q I rx ry h hs
  obtain ⟨z,i,c,rfl,rfl,hz,he,q⟩ := h
  obtain ⟨t,rfl⟩ := rx
  obtain ⟨t',rfl⟩ := ry
  obtain ⟨j,h1,h2,h3,h4,h5⟩ := atI_get he
  have hl : z.cps.toList.length = z.length := by simp [Str.length]
  rw [hl] at h1 h4 h5
  have hn := line63
  exact tail_any (typeIs_str s z t) slot_str_getitem.lookup (getItem_str (c := c) (by
    have e1 : decide (i < -(2 ^ 63 : Int)) = false := decide_eq_false (by omega)
    have e2 : decide (i >= 2 ^ 63) = false := decide_eq_false (by omega)
    rw [e1,e2,Bool.or_false]) (by rw [h1]; simpa using h2) ⟨.str ⟨#[c]⟩,H,I.tok _,⟨_,rfl⟩,q⟩) hs
def rIx (K : PySem.W.Frag) : R2 := λ x y H Q => rIxL K x y H Q \/ rIxT K x y H Q \/ rIxS x y H Q
theorem ix_seq : IxR X (rIx X.K) := ix_list.or (ix_tup.or ix_str)

theorem mapSeq_set (its : List Value) (n j : Nat) (u : Value) : Obj.mapSeq (·.setIfInBounds j u) { cls := .type "list",data := .seq its.toArray n } = { cls := .type "list",data := .seq (its.set j u).toArray n } := by
  simp [Obj.mapSeq]
theorem Inv.lst {pins : List (Addr × Obj)} {σ : St} {H : Hp} {s : Shared} {p : Addr} {xs : List V} (I : Inv X pins σ H s) (h : H p = some (.lst xs)) :
    ∃ (its : List Value) (n : Nat),Vals xs its /\ s.heap.get? p = some { cls := .type "list",data := .seq its.toArray n } /\ xs.length <= sizeLine := by
  obtain ⟨z,its,n,r,e⟩ := I.hok p _ h
  exact ⟨its,n,r,e,z⟩
theorem Inv.lstUpd {pins : List (Addr × Obj)} {σ : St} {H : Hp} {s : Shared} {p : Addr} {xs ys : List V} {its its' : List Value} {n n' : Nat} {f : Obj -> Obj} (I : Inv X pins σ H s) (h : H p = some (.lst xs))
    (ho : s.heap.get? p = some { cls := .type "list",data := .seq its.toArray n }) (hf : f { cls := .type "list",data := .seq its.toArray n } = { cls := .type "list",data := .seq its'.toArray n' }) (r : Vals ys its') (hz : ys.length <= sizeLine) (t : Nat) :
    Inv X pins σ (upd H p (.lst ys)) { s with heap := s.heap.update p f,toks := t } := by
  have e : (s.heap.update p f).get? p = some { cls := .type "list",data := .seq its'.toArray n' } := by
    rw [Heap.get?_update_self f ho (by rw [hf] <;> rfl),hf]
  refine I.write (x := p) (e := p) (by rw [h]; trivial) (.inl rfl) (λ b u hb q => (Heap.get?_update_other _ _ (Ne.symm hb)).trans q) ⟨_,e⟩ ?_
  exact ⟨hz,its',n',r,e⟩
def rSetL : V -> V -> V -> Hp -> (Hp -> Prop) -> Prop := λ o i v H Q => ∃ p xs k j,o = .ref p /\ i = .int k /\ H p = some (.lst xs) /\ ixN xs.length k = some j /\ Q (upd H p (.lst (xs.set j v)))
theorem set_list : PSet X rSetL := by
  intro pins s σ H o i v ov iv u Q I ro ri rv h
  obtain ⟨p,xs,k,j,rfl,rfl,hp,hj,q⟩ := h
  cases ro
  obtain ⟨t,rfl⟩ := ri
  obtain ⟨its,n,r,ho,hz⟩ := I.lst hp
  obtain ⟨h1,h2,h3,h4⟩ := ixN_seq hj
  have hl := r.length
  have hn := line63
  have I' : Inv X pins σ (upd H p (.lst (xs.set j v))) { s with heap := s.heap.update p (Obj.mapSeq (·.setIfInBounds j u)) } :=
    I.lstUpd hp ho (mapSeq_set its n j u) (r.set rv j) (by rw [List.length_set]; exact hz) s.toks
  by_cases h0 : 0 <= k
  · have hk : k.toNat = j := by
      rw [seqIndex_of h0 h4] at h1
      exact Option.some.inj h1
    exact PySem.W.ki_setAt ho h0 (by omega) (by rw [List.size_toArray,<- hl]; exact h4) (by rw [hk]; exact ⟨_,I',q⟩)
  · have hk : (k + (its.toArray.size : Int)).toNat = j := by
      rw [seqIndex_neg (by omega) h3] at h1
      rw [List.size_toArray,<- hl]
      exact Option.some.inj h1
    exact PySem.W.ki_setBack ho (by omega) (by rw [List.size_toArray,<- hl]; exact h3) (by omega) (by rw [hk]; exact ⟨_,I',q⟩)

theorem slice_bounds (lo hi : Option Int) (n : Nat) : (sliceBounds lo hi none n).1 = ((HT.sIx n 0 lo : Nat) : Int) /\ (sliceBounds lo hi none n).2.1 = ((HT.sIx n n hi : Nat) : Int) /\ (sliceBounds lo hi none n).2.2 = 1 := by
  refine ⟨?_,?_,rfl⟩
  · cases lo with
    | none => simp [sliceBounds,HT.sIx]
    | some i =>
      simp only [sliceBounds,HT.sIx,Option.getD_none,show (1 : Int) > 0 by decide,if_true]
      by_cases h : i < 0
      · simp only [h,if_true] <;> omega
      · simp only [h,if_false] <;> omega
  · cases hi with
    | none => simp [sliceBounds,HT.sIx]
    | some i =>
      simp only [sliceBounds,HT.sIx,Option.getD_none,show (1 : Int) > 0 by decide,if_true]
      by_cases h : i < 0
      · simp only [h,if_true] <;> omega
      · simp only [h,if_false] <;> omega
theorem slicePick_cut (its : List Value) (lo hi : Option Int) : slicePick its.toArray lo hi none = ((its.drop (HT.sIx its.length 0 lo)).take (HT.sIx its.length its.length hi - HT.sIx its.length 0 lo)).toArray := by
  obtain ⟨h1,h2,h3⟩ := slice_bounds lo hi its.toArray.size
  unfold slicePick
  rw [h1,h2,h3]
  simp only [sliceRange_one,pick_run,List.size_toArray] <;> rfl
def rSlL (K : PySem.W.Frag) : V -> Option Int -> Option Int -> Hp -> VK -> Prop := λ x lo hi H Q => ∃ a xs,x = .ref a /\ SqL K H a xs /\ ∀ p,H p = none -> Q (.ref p) (upd H p (.lst (cutV xs lo hi)))
theorem sl_list : SlR X (rSlL X.K) := by
  intro pins s σ H x v vl vu lo hi sl Q I rx hs pl pu h
  obtain ⟨a,xs,rfl,hx,q⟩ := h
  cases rx
  obtain ⟨its,r,ht,hz⟩ := I.list hx
  have hlen := r.length
  refine ⟨"list",_,slot_list_getitem.lookup,ht.isList.typeIs,?_⟩
  refine wpAny_getItem_list_slice ht.isList hs pl pu .none (by simp) ?_ (by rw [List.size_toArray] <;> omega)
  rw [slicePick_cut,<- hlen]
  refine ⟨.ref s.heap.objs.size,_,I.laid (t' := s.toks) (o := .lst (cutV xs lo hi)) (λ b ob q => Heap.get?_push_of_some _ q) (Nat.le_refl _) ?_,rfl,q _ (I.hok.fresh (Nat.le_refl _))⟩
  exact ⟨Nat.le_trans (cutV_length xs lo hi) hz,_,0,(r.drop (HT.sIx xs.length 0 lo)).take (HT.sIx xs.length xs.length hi - HT.sIx xs.length 0 lo),Heap.get?_push_size _ rfl⟩

theorem call_list_of : CallR X (.type "list") (λ xs H Q => ∃ p ys,xs = [.ref p] /\ (SqL X.K H p ys \/ SqT X.K H p ys) /\ ∀ l,H l = none -> Q (.ref l) (upd H l (.lst ys))) := by
  intro pins s σ H xs us Q I r h
  obtain ⟨p,ys,rfl,hq,q⟩ := h
  obtain ⟨u,rfl,rx⟩ := vals1 r
  cases rx
  have fin : ∀ (its : List Value),Vals ys its -> ys.length <= sizeLine -> ∀ (h' : Heap) (c' : Nat),(∀ b o',s.heap.get? b = some o' -> h'.get? b = some o') ->
      h'.get? s.heap.objs.size = some { cls := .type "list",dict := none,data := .seq its.toArray c',slots := #[] } -> EP X pins σ Q (.ref s.heap.objs.size) { s with heap := h' } := λ its r' hz h' c' kp e =>
    ⟨.ref s.heap.objs.size,_,I.laid (t' := s.toks) kp (Nat.le_refl _) (show ObjOk X.prog X.w _ h' _ (.lst ys) from ⟨hz,its,c',r',e⟩),rfl,q _ (I.hok.fresh (Nat.le_refl _))⟩
  rcases hq with hq | hq
  · obtain ⟨its,r',pl,hz⟩ := I.list hq
    have hlen := r'.length
    obtain ⟨o,ho,hc,n,hd⟩ := pl.isList
    exact call_list_seq p (.inl rfl) ho hc hd (λ h' c' kp e => fin its r' hz h' c' kp e) (by simp only [List.size_toArray] <;> omega)
  · obtain ⟨its,r',pl,hz⟩ := I.tuple hq
    have hlen := r'.length
    obtain ⟨o,ho,hc,n,hd⟩ := pl
    exact call_list_seq p (.inr rfl) ho hc hd (λ h' c' kp e => fin its r' hz h' c' kp e) (by simp only [List.size_toArray] <;> omega)
theorem call_tuple_of : CallR X (.type "tuple") (λ xs H Q => ∃ p ys,xs = [.ref p] /\ ((SqL X.K H p ys /\ ∀ l,H l = none -> Q (.ref l) (upd H l (.tup ys))) \/ (SqT X.K H p ys /\ Q (.ref p) H))) := by
  intro pins s σ H xs us Q I r h
  obtain ⟨p,ys,rfl,h⟩ := h
  obtain ⟨u,rfl,rx⟩ := vals1 r
  cases rx
  rcases h with ⟨hq,q⟩ | ⟨hq,q⟩
  · obtain ⟨its,r',pl,hz⟩ := I.list hq
    have hlen := r'.length
    refine call_tuple_list pl.isList (λ h' kp => ?_) (by simp only [List.size_toArray] <;> omega)
    have I1 : Inv X pins σ H { s with heap := h' } := I.kept (t' := s.toks) kp
    have I2 : Inv X pins σ (upd H h'.objs.size (.tup ys)) { s with heap := h'.push { cls := .type "tuple",data := .seq its.toArray } } :=
      I1.laid (t' := s.toks) (λ b o e => Heap.get?_push_of_some _ e) (Nat.le_refl _) (show ObjOk X.prog X.w _ _ _ (.tup ys) from ⟨hz,its,r',IsTup.new _ _⟩)
    exact ⟨.ref h'.objs.size,_,I2,rfl,q _ (I1.hok.fresh (Nat.le_refl _))⟩
  · obtain ⟨its,r',pl,hz⟩ := I.tuple hq
    exact call_tuple_same pl ⟨.ref p,H,I,rfl,q⟩

def tyV (K : PySem.W.Frag) (T : String) (x : V) (H : Hp) : Prop := match x with
  | .str _ => T = "str"
  | .int _ => T = "int"
  | .ref p => (T = "list" /\ ∃ xs,SqL K H p xs) \/ (T = "tuple" /\ ∃ o,K.lookup p = some o /\ o.cls = .type "tuple" /\ o.dict = none) \/
      (T = "dict" /\ ((∃ kvs,H p = some (.dK kvs)) \/ ∃ kvs,H p = some (.dT kvs))) \/ (T = "set" /\ ∃ S n,H p = some (.set S n))
  | _ => False
theorem tyV_is {pins : List (Addr × Obj)} {σ : St} {H : Hp} {s : Shared} {T : String} {x : V} {v : Value} (I : Inv X pins σ H s) (r : RelV x v) (ty : tyV X.K T x H) :
    s.TypeIs v T /\ ∀ a,v = .ref a -> ∃ ob,s.heap.get? a = some ob /\ ob.dict = none := by
  cases x with
  | str z =>
    obtain ⟨t,rfl⟩ := r
    cases (show T = "str" from ty)
    exact ⟨typeIs_str s z t,λ _ e => nomatch e⟩
  | int i =>
    obtain ⟨t,rfl⟩ := r
    cases (show T = "int" from ty)
    exact ⟨typeIs_int s i t,λ _ e => nomatch e⟩
  | ref p =>
    cases r
    rcases ty with ⟨rfl,xs,hq⟩ | ⟨rfl,o,hk,hc,hd⟩ | ⟨rfl,hk⟩ | ⟨rfl,S,n,hk⟩
    · obtain ⟨its,_,pl,_⟩ := I.list hq
      refine ⟨pl.isList.typeIs,λ a e => ?_⟩
      cases e
      obtain ⟨o,n,e,c,hd,_⟩ := pl
      exact ⟨o,e,hd⟩
    · refine ⟨⟨o,I.kIn p o hk,hc⟩,λ a e => ?_⟩
      cases e
      exact ⟨o,I.kIn _ o hk,hd⟩
    · have z : ∃ o,s.heap.get? p = some o /\ o.ExactDict := by
        rcases hk with ⟨kvs,hk⟩ | ⟨kvs,hk⟩
        · obtain ⟨_,_,_,_,o,_,_,e,ex,_⟩ := I.hok p _ hk
          exact ⟨o,e,ex⟩
        · obtain ⟨_,_,_,_,o,_,_,e,ex,_⟩ := I.hok p _ hk
          exact ⟨o,e,ex⟩
      obtain ⟨o,e,ex⟩ := z
      refine ⟨⟨o,e,ex.1⟩,λ a e2 => ?_⟩
      cases e2
      exact ⟨o,e,ex.2.1⟩
    · obtain ⟨o,_,_,_,e,ex,_⟩ := I.hok p _ hk
      refine ⟨⟨o,e,ex.1⟩,λ a e2 => ?_⟩
      cases e2
      exact ⟨o,e,ex.2.1⟩
  | _ => exact False.elim ty
def tBM (K : PySem.W.Frag) (T : String) (r : V -> List V -> Hp -> VK -> Prop) (to : TE) (t : TA) : TE := λ σ H Q => to σ H λ x H1 => tyV K T x H1 /\ t σ H1 λ xs H2 => r x xs H2 Q
variable {o e : Expr} {es : List Expr} {to : TE} {t : TA} {name : Str} {apos cpos : Pos} {T id : String} {r : V -> List V -> Hp -> VK -> Prop}
theorem pe_bm (pa : PlainAttrs T) (slot : Slot T name id) (hty : typeOf (.builtin id) = pure (.type "method_descriptor")) (hm : MtR X id r) (ho : PE X o to) (ha : PA X (e :: es) t)
    (hbase : attributeBase o name X.env (eval o X.env) = eval o X.env := by rfl)
    (hfew : ((backTo cpos (starEach (e :: es) X.env)).all (λ x => !x.1) && (backToKw cpos (keywordEach [] X.env)).all (λ x => x.1.isSome)
      && decide ((e :: es).length + ([] : List Keyword).length + (if ([] : List Keyword).isEmpty then 0 else 1) < 30)) = true := by rfl)
    (hline : (apos.endLine == cpos.line) = true := by rfl) (hs : starEach (e :: es) X.env = (false,eval e X.env) :: starEach es X.env := by rfl) (hplain : (backTo cpos (starEach es X.env)).any (·.1) = false := by rfl) :
    PE X (.Call (.Attribute o name apos) (e :: es) [] cpos) (tBM X.K T r to t) := by
  intro pins s σ H Q I h
  refine wpAny_Call_method_late hbase hfew hline rfl (thn (ho pins s σ H _ I h) λ v s1 hq25 => ?_)
  obtain ⟨x,H1,I1,r1,ty,q1⟩ := hq25
  obtain ⟨h1,h2⟩ := tyV_is I1 r1 ty
  refine ⟨T,id,pa,slot,hty,h1,h2,?_⟩
  have hA := ha cpos pins s1 σ H1 _ I1 q1
  rw [hs] at hA ⊢
  refine Calls.callWith_builtin (by show (false || (backTo cpos (starEach es X.env)).any (·.1)) = false; rw [hplain] <;> rfl) (Calls.evalArgs_plain ?_)
  exact thn hA λ us s2 ⟨vs,H2,I2,r2,q2⟩ => hm pins s2 σ H2 x vs v us Q I2 r1 r2 q2
end
end L2
namespace L2
open PySem PySem.Spec PyProof.Rows
def MtM (X : Cx) (id : String) (r : V -> List V -> Hp -> VK -> Prop) : Prop :=
  ∀ (pins : List (Addr × Obj)) (s : Shared) (σ : St) (H : Hp) (x : V) (xs : List V) (v : Value) (us : List Value) (Q : VK),Inv X pins σ H s -> RelV x v -> Vals xs us -> r x xs H Q ->
    wpAny (model X.prog X.w) X.A (call (.builtin id) (v :: us)) (EP X pins σ Q) X.xe s

theorem Vals.one : ∀ {x : V} {us : List Value},Vals [x] us -> ∃ u,us = [u] /\ RelV x u
  | _,_,.cons r .nil => ⟨_,rfl,r⟩
theorem Vals.rep {xs : List V} {us : List Value} (h : Vals xs us) : ∀ k : Nat,Vals (List.replicate k xs).flatten (List.replicate k us).flatten
  | 0 => .nil
  | k + 1 => by
    rw [List.replicate_succ,List.replicate_succ,List.flatten_cons,List.flatten_cons]
    exact Vals.append h (Vals.rep h k)
theorem foldl_rep (its : List Value) : ∀ (k : Nat) (acc : List Value),
    List.foldl (λ x1 x2 => x1 ++ x2) acc.toArray (List.replicate k its.toArray) = (acc ++ (List.replicate k its).flatten).toArray
  | 0,acc => by simp
  | k + 1,acc => by
    have e : acc.toArray ++ its.toArray = (acc ++ its).toArray := by simp
    have e2 : (acc ++ its) ++ (List.replicate k its).flatten = acc ++ (List.replicate (k + 1) its).flatten := by
      rw [List.replicate_succ,List.flatten_cons,List.append_assoc]
    rw [<- e2,<- foldl_rep its k (acc ++ its),<- e,List.replicate_succ,List.foldl_cons]

section
variable {X : Cx} {pins : List (Addr × Obj)} {σ : St} {H : Hp} {s : Shared} {l b : Addr} {xs ys zs : List V}
theorem Inv.lset {its its' : List Value} {n : Nat} {f : Array Value -> Array Value} {t' : Nat} (I : Inv X pins σ H s) (hH : H l = some (.lst xs))
    (e : s.heap.get? l = some { cls := .type "list",data := .seq its.toArray n }) (hf : f its.toArray = its'.toArray) (hv : Vals ys its') (hz : ys.length <= sizeLine) :
    Inv X pins σ (upd H l (.lst ys)) { s with heap := s.heap.update l (Obj.mapSeq f),toks := t' } := by
  have q := PySem.IsL.update e f
  rw [hf] at q
  refine I.write (x := l) (e := l) (by rw [hH]; exact trivial) (.inl rfl) (λ b' u hb hu => (Heap.get?_update_other s.heap (Obj.mapSeq f) (Ne.symm hb)).trans hu) ⟨_,q⟩ ?_
  exact ⟨hz,its',_,hv,q⟩
theorem Inv.lnew {its : List Value} {t' : Nat} (I : Inv X pins σ H s) (hv : Vals ys its) (hz : ys.length <= sizeLine) :
    Inv X pins σ (upd H s.heap.objs.size (.lst ys)) { s with heap := s.heap.push { cls := .type "list",data := .seq its.toArray },toks := t' } :=
  I.laid (λ _ _ q => Heap.get?_push_of_some _ q) (Nat.le_refl _) ⟨hz,its,0,hv,Heap.get?_push_size _ rfl⟩
theorem Inv.fresh (I : Inv X pins σ H s) : H s.heap.objs.size = none := I.hok.fresh (Nat.le_refl _)
theorem Inv.lstM (I : Inv X pins σ H s) (hH : H l = some (.lst xs)) : xs.length <= sizeLine /\ ∃ (its : List Value) (n : Nat),Vals xs its /\ xs.length = its.length /\ s.heap.get? l = some { cls := .type "list",data := .seq its.toArray n } := by
  obtain ⟨z,its,n,r,e⟩ := I.hok l _ hH
  exact ⟨z,its,n,r,r.length,e⟩

theorem notLongL {n : Nat} (h : n <= sizeLine) : Builtin.List.listTooLong n = false := by
  unfold Builtin.List.listTooLong
  exact decide_eq_false (by omega)
end
section
variable {X : Cx}
def rAppend : V -> List V -> Hp -> VK -> Prop := λ x vs H Q => ∃ l xs y,x = .ref l /\ vs = [y] /\ H l = some (.lst xs) /\ xs.length < sizeLine /\ Q .non (upd H l (.lst (xs ++ [y])))
theorem mt_append : MtM X "list.append" rAppend := by
  intro pins s σ H x vs v us Q I rx rv h
  obtain ⟨l,xs,y,rfl,rfl,hH,hz,q⟩ := h
  cases rx
  obtain ⟨u,rfl,ru⟩ := rv.one
  obtain ⟨z,its,n,r,hl,e⟩ := I.lstM hH
  refine call_meets F.slot_list_append ⟨_,e,rfl⟩ F.entry_list_append (F.args_list_append_2 _ _) (PySem.list_append l its.toArray n u (by rw [List.size_toArray]; omega)) ⟨e,?_⟩
  refine ⟨.non,_,I.lset (its' := its ++ [u]) hH e (by simp) (r.append (.cons ru .nil)) ?_,rfl,q⟩
  rw [List.length_append,List.length_singleton]
  omega

def rRep : R2 := λ x y H Q => ∃ l k xs,x = .ref l /\ y = .int k /\ H l = some (.lst xs) /\ -(2 ^ 63) <= k /\ k < 2 ^ 63 /\ xs.length * k.toNat <= sizeLine /\
  ∀ p,H p = none -> Q (.ref p) (upd H p (.lst (List.replicate k.toNat xs).flatten))
theorem len_rep {α : Type} (xs : List α) (k : Nat) : (List.replicate k xs).flatten.length = k * xs.length := by
  induction k with
  | zero => simp
  | succ k ih => rw [List.replicate_succ,List.flatten_cons,List.length_append,ih,Nat.succ_mul,Nat.add_comm]
theorem op_rep : OpR X (binaryOp .Mult) rRep := by
  intro pins s σ H x y v u Q I rx ry h
  obtain ⟨l,k,xs,rfl,rfl,hH,h1,h2,hz,q⟩ := h
  cases rx
  obtain ⟨t,rfl⟩ := ry
  obtain ⟨z,its,n,r,hl,e⟩ := I.lstM hH
  have hlen : its.toArray.size * k.toNat <= sizeLine := by rw [List.size_toArray,<- hl]; exact hz
  have hcap : ¬ its.toArray.size * k.toNat > (2 ^ 63 - 1) / 8 := by
    have : (sizeLine : Nat) <= (2 ^ 63 - 1) / 8 := by decide
    omega
  have hfit : ¬ (!Builtin.List.listFitsIndex k) = true := by
    rw [fitsIndex_both h1 h2]
    exact Bool.false_ne_true
  have hlong : ¬ Builtin.List.listTooLong (its.toArray.size * k.toNat) = true := by
    rw [notLongL hlen]
    exact Bool.false_ne_true
  have hnew : List.foldl (λ x1 x2 => x1 ++ x2) #[] (List.replicate (if its.toArray.isEmpty = true then 0 else k.toNat) its.toArray) = (List.replicate k.toNat its).flatten.toArray := by
    have f0 : ∀ m : Nat,List.foldl (λ x1 x2 => x1 ++ x2) #[] (List.replicate m its.toArray) = (List.replicate m its).flatten.toArray := λ m => by
      have := foldl_rep its m []
      rw [List.nil_append] at this
      exact this
    rw [f0]
    cases its with
    | nil => simp
    | cons a r' => rw [if_neg (by simp)]
  refine wpAny_binaryOp_repeat_ref (T := "list") (U := "int") (by decide) ⟨_,e,rfl⟩ (λ s' => typeIs_int s' k t) noFill_list_mul F.fills_int_mul F.slot_int_rmul repeat_list F.slot_int_index.lookup
    (call_meets F.slot_int_rmul (typeIs_int s k t) F.entry_int_rmul (F.args_int_rmul_2 _ _) (int___rmul___int_list k t l its.toArray n)
      ⟨e,rfl,⟨_,e,rfl⟩,call_meets F.slot_list_mul ⟨_,e,rfl⟩ F.entry_list_mul (F.args_list_mul_2 _ _) (AutoListH.list___mul___list_int_3 l its.toArray n k t hfit hcap hlong) ⟨e,?_⟩⟩)
  rw [hnew]
  exact ⟨.ref _,_,I.lnew (t' := s.toks) (r.rep k.toNat) (by rw [len_rep,Nat.mul_comm]; exact hz),rfl,q _ I.fresh⟩

end
section
variable {prog : Program} {w : World} {A : Around} {E : Value -> Shared -> Prop} {s : Shared}
end
section
variable {X : Cx}
end
end L2
namespace Att
open PySem PySem.W PySem.Calls PyProof.Rows
theorem ints_of_wellAll {P : Params} {h : Heap} : ∀ (ns : List Int) (vs : List Value),WellAll P h vs (ns.map WData.int) -> IntsAre vs ns := by
  intro ns
  induction ns with
  | nil =>
    intro vs w
    rw [List.map_nil] at w
    cases w
    exact .nil
  | cons n ns ih =>
    intro vs w
    rw [List.map_cons] at w
    cases w with
    | cons a b =>
      cases a
      exact .cons _ _ (ih _ b)

theorem script_of {l : OpenLaw} {n : Nat} (hn : l.most = some n) {P : Params} {h : Heap} {args : List WData} {vals : List Value}
    (hpre : l.row.toRowW.claim.pre args = true) (hwl : WellAll P h vals args) :
    ∃ a vs ns,vals = [Value.ref a] /\ args = [WData.list (ns.map WData.int)] /\ h.get? a = some { cls := .type "list",data := .seq vs.toArray } /\ IntsAre vs ns /\ ns.length <= n := by
  have hsh : WShape.hasAll [] args [.list .int] = true := (pre_splitW hpre).1
  have hc : l.pre.holds [] { args := args } = true := (pre_splitW hpre).2
  obtain ⟨d,r,rfl,h1,h2⟩ := hasAllW_cons hsh
  obtain rfl := hasAllW_nil h2
  obtain ⟨xs,rfl,h3⟩ := hasW_list h1
  obtain ⟨ns,rfl⟩ := items_int h3
  have hlen : ns.length <= n := by
    unfold OpenLaw.pre at hc
    have h4 : (WTm.not (.lt (.lit (.int (n : Int))) (.len (.arg 0)))).holds [] { args := [.list (ns.map .int)] } = true := by
      have h4 := (holds_andW hc).1
      rw [hn] at h4
      exact h4
    have h5 := condW_of h4 (w_not (w_lt w_lit (w_len_list (w_arg rfl))))
    rw [List.length_map] at h5
    refine Nat.le_of_not_lt λ q => ?_
    have q' : (n : Int) < ((ns.length : Nat) : Int) := by omega
    first
      | (rw [decide_eq_true q'] at h5; exact absurd h5 (by decide))
      | (simp at h5; omega)
  cases hwl with
  | cons w1 w2 =>
    cases w2
    cases w1 with
    | list ho hall => exact ⟨_,_,ns,rfl,rfl,ho,ints_of_wellAll ns _ hall,hlen⟩

theorem post_true (l : OpenLaw) (args : List WData) : l.row.toRowW.claim.post args (.bool true) args = true :=
  postW_of (r := l.row.toRowW) (X := (true == true))
    (show WShape.has [] (.bool true) .bool = true by first | rfl | decide | simp [WShape.has,WShape.arms,WShape.armsAll])
    (show (WTm.eq .res (.lit (.bool true))).value [] { args := args,res := some (.bool true),after := args } = some (.bool (true == true)) from w_eq_bool (w_res rfl) w_lit) rfl

theorem attach_call {l : OpenLaw} {n : Nat} {q : Program} {loose : List Str} {XP : (Str -> Option Value) -> Heap -> Prop} {YP : World -> Heap -> Prop} {d : DefRec}
    (hn : l.most = some n) (hdf : d.params.defaults = [])
    (call : ∀ (w : World) (s₀ s₁ : Shared) (mg mb : Str -> Option Value) (fa : Addr) (o : Obj) (pm cd doc : Value) (a : Addr) (vs : List Value) (ns : List Int),
      Ground q loose [] XP w s₀ mg mb s₁.heap -> YP w s₁.heap ->
      s₁.heap.get? fa = some o -> o.data = .func (docDef d.name d.params d.body d.scope pm cd doc) -> s₁.heap.CodeRec cd d.name -> mg d.name = some (.ref fa) ->
      s₁.heap.get? a = some { cls := .type "list",data := .seq vs.toArray } -> IntsAre vs ns -> ns.length <= n -> s₁.gens = #[] ->
      codeAny (model l.prog w) callerA (.call (.ref fa) ⟨[.ref a],[]⟩) (λ r s' => r = .ok (.ret (.bool true)) /\ OldK s₁.heap s'.heap /\ s'.os = s₁.os /\ AllBare s'.gens) s₁) :
    WalkO q loose XP YP l.row.toRowW d [] (λ f vs => PySem.call f vs) := by
  intro w s₀ s₁ mg mb G Y fa o pm cd doc dV kV ho hd hcd hD hmg hg args vals as hpre hlay hrd hwl hlo
  obtain rfl : dV = .none := Dflts.none hD hdf
  obtain rfl : kV = .none := Dflts.noKw hD
  obtain ⟨a,vs,ns,rfl,rfl,hobj,hints,hlen⟩ := script_of hn hpre hwl
  refine enter_call (codeAny_mono (call w s₀ s₁ mg mb fa o pm cd doc a vs ns G Y ho (fd_plain hd) hcd hmg hobj hints hlen hg) λ r s' hq => ?_)
  obtain ⟨rfl,h2,h3,h4⟩ := hq
  exact ⟨.inl ⟨.bool true,.bool true,[],rfl,λ _ => rfl,.bool true,post_true l _,λ _ => ⟨List.Pairwise.nil,λ _ hm => (nomatch hm)⟩⟩,h2,h3,h4⟩

section
variable {prog : Program} {w : World} {A : Around} {E : Value -> Shared -> Prop} {s : Shared} {K : Frag}
end
end Att
namespace L2
open PySem PySem.Spec PyProof.Rows
theorem vals_ints : ∀ {vs : List Value} {ns : List Int},IntsAre vs ns -> Vals (ns.map V.int) vs
  | _,_,.nil => .nil
  | _,_,.cons n t h => .cons ⟨t,rfl⟩ (vals_ints h)

def Only (H : Hp) : Prop := ∀ b,H b = none \/ ∃ o xs,H b = some (.frz o (.lst xs))

theorem law_call {P : Program} {w : World} {K : PySem.W.Frag} {mg mb : Str -> Option Value} {CX : CXT} {k : Nat} {fa a : Addr} {fd : FuncData} {x : Str} {sp : Sp} {s₁ : Shared} {vs : List Value} {ns : List Int}
    (KX : K.In s₁.heap) (hns : s₁.heap.Ns mainGlobals mg) (hb : s₁.heap.Ns builtinsNs mb) (hbb : ∀ x : Str,x ≠ "__name__" -> mb x = bootBuiltins x) (hlim : s₁.heap.NoLimit) (hg : s₁.gens = #[])
    (ha : s₁.heap.get? a = some { cls := .type "list",data := .seq vs.toArray }) (hi : IntsAre vs ns) (hl : ns.length <= sizeLine) (hr : Room k callerA)
    (F : ∀ base : Heap,K.In base -> base.Ns mainGlobals mg -> FnOk P w K mg base CX k fa fd [x] sp) (hbind : ∀ (s : Shared) (u : Value),BindsTo s fd ⟨[u],[]⟩ [(x,u)])
    (hsp : ∀ H : Hp,Only H -> SqL K H a (ns.map V.int) -> sp [.ref a] H (λ v _ => v = .bl true) λ _ _ _ => False)
    (hCX : ∀ H e s',CX [] H s₁ (λ _ _ _ => False) e s' -> False) :
    codeAny (model P w) callerA (.call (.ref fa) ⟨[.ref a],[]⟩) (λ r s' => r = .ok (.ret (.bool true)) /\ OldK s₁.heap s'.heap /\ s'.os = s₁.os /\ AllBare s'.gens) s₁ := by
  have rv := vals_ints hi
  have lenV := hi.length
  -- from an abstract heap in which nothing but the script may be tracked
  have core : ∀ H : Hp,Only H -> SqL K H a (ns.map V.int) -> HOk P w H s₁.heap -> (∀ b,H b ≠ none -> b = a) -> (H a ≠ none -> K.lookup a = none) ->
      codeAny (model P w) callerA (.call (.ref fa) ⟨[.ref a],[]⟩) (λ r s' => r = .ok (.ret (.bool true)) /\ OldK s₁.heap s'.heap /\ s'.os = s₁.os /\ AllBare s'.gens) s₁ := by
    intro H hO hS hok hA hK
    have base_of : ∀ {b : Addr} {o : Obj},s₁.heap.get? b = some o -> H b = none -> (hidT s₁.heap H).get? b = some o := λ e n => hidT_get e n
    have noA : ∀ {b : Addr} {o : Obj} {es : Array DictEntry} {ep : Nat},s₁.heap.get? b = some o -> o.data = .dict es ep -> H b = none := λ {b o es ep} e d => by
      cases q : H b with
      | none => rfl
      | some u =>
        have e' : b = a := hA b (by rw [q]; simp)
        subst e'
        rw [ha] at e; cases e
        have d' : Data.seq vs.toArray _ = Data.dict es ep := d
        cases d'
    have nsK : ∀ {b : Addr} {m : Str -> Option Value},s₁.heap.Ns b m -> (hidT s₁.heap H).Ns b m := λ {b m} ⟨o,es,ep,e,d,r⟩ => ⟨o,es,ep,base_of e (noA e d),d,r⟩
    have hKb : K.In (hidT s₁.heap H) := λ b o e => base_of (KX b o e) (by
      cases q : H b with
      | none => rfl
      | some u =>
        have e' : b = a := hA b (by rw [q]; simp)
        subst e'
        rw [hK (by rw [q]; simp)] at e; cases e)
    have hM : Mod K mg (hidT s₁.heap H) := ⟨hKb,nsK hns,⟨mb,nsK hb,hbb⟩,let ⟨mc,h1,h2⟩ := hlim; ⟨mc,nsK h1,h2⟩⟩
    have e0 : Env0 P w K mg (hidT s₁.heap H) callerA [] s₁ H := ⟨rfl,hM,λ b o e => of_hidT e,Nat.le_of_eq (hidT_size _ _),trivial,λ b hb => absurd (show b ∈ ([] : List Addr) from hb) (by simp),hok,.of_eq hg⟩
    refine codeAny_mono ((F _ hKb (nsK hns)).run callerA [] s₁ H ⟨[.ref a],[]⟩ [.ref a] [.ref a] _ _ hr e0 (hbind s₁ (.ref a)) (.cons rfl .nil) (hsp H hO hS)) λ r s' h => ?_
    cases r with
    | error e => exact (hCX H e s' h).elim
    | ok fl =>
      cases fl with
      | next => exact False.elim h
      | brk => exact False.elim h
      | cont => exact False.elim h
      | ret u =>
        obtain ⟨v,H',os,bare,un,hok',r',q⟩ := h
        have q' : v = .bl true := q
        subst q'
        obtain rfl : u = Value.bool true := r'
        refine ⟨rfl,OldK.of_keep λ b o e => ?_,os,bare⟩
        cases q : H b with
        | none => exact un.keep b o e q (by intro z; exact absurd (show b ∈ ([] : List Addr) from z) (by simp)) (by simp)
        | some u =>
          rcases hO b with z | ⟨ob,xs,z⟩
          · rw [q] at z; cases z
          · have z2 := un.frzs b ob _ z
            obtain ⟨e1,_⟩ := hok b _ z
            obtain ⟨e2,_⟩ := hok' b _ z2
            rw [e] at e1; cases e1
            exact e2
  cases hk : K.lookup a with
  | some o =>
    -- the script is one of the module's own objects
    have e := KX a o hk
    rw [ha] at e
    cases e
    refine core (λ _ => none) (λ _ => .inl rfl) (.inr ⟨_,vs.toArray,_,hk,rfl,rfl,rfl,by rw [List.size_toArray,lenV]; exact hl,by simpa using rv⟩) (λ b u z => by have z' : (none : Option HO) = some u := z; cases z') (λ b z => absurd rfl z) λ z => absurd rfl z
  | none =>
    refine core (λ b => if b = a then some (.frz { cls := .type "list",data := .seq vs.toArray } (.lst (ns.map V.int))) else none) (λ b => ?_) (.inl (.inr ⟨{ cls := .type "list",data := .seq vs.toArray },if_pos rfl⟩)) (λ b u z => ?_) (λ b z => ?_) λ _ => hk
    · by_cases hb : b = a
      · exact .inr ⟨_,_,if_pos hb⟩
      · exact .inl (if_neg hb)
    · by_cases hb : b = a
      · have z' := (if_pos hb).symm.trans z
        cases z'
        subst hb
        exact ⟨ha,by rw [List.length_map]; exact hl,vs,_,rv,ha⟩
      · have z' := (if_neg hb).symm.trans z
        cases z'
    · by_cases hb : b = a
      · exact hb
      · exact absurd (if_neg hb) z
end L2
namespace L2
open PySem PySem.Spec PyProof.Rows
theorem walk_of {l : PySem.W.OpenLaw} {n k : Nat} {q : Program} {loose : List Str} {XP : (Str -> Option Value) -> Heap -> Prop} {YP : World -> Heap -> Prop} {d : DefRec} {K : Params -> PySem.W.Frag} {CX : World -> CXT} {sp : World -> Sp} {x : Str}
    (hn : l.most = some n) (hn2 : n <= sizeLine) (hdf : d.params.defaults = []) (hr : Room k callerA)
    (hY : ∀ (w : World) (h : Heap),YP w h -> (K w.params).In h)
    (F : ∀ (w : World) (mg : Str -> Option Value) (fa : Addr) (h : Heap),(K w.params).In h -> h.Ns mainGlobals mg -> mg d.name = some (.ref fa) ->
      ∃ fd : FuncData,(∀ (s : Shared) (u : Value),BindsTo s fd ⟨[u],[]⟩ [(x,u)]) /\
        ∀ base : Heap,(K w.params).In base -> base.Ns mainGlobals mg -> FnOk l.prog w (K w.params) mg base (CX w) k fa fd [x] (sp w))
    (hsp : ∀ (w : World) (H : Hp) (a : Addr) (ns : List Int),ns.length <= n -> Only H -> SqL (K w.params) H a (ns.map V.int) -> sp w [.ref a] H (λ v _ => v = .bl true) λ _ _ _ => False)
    (hCX : ∀ (w : World) (H : Hp) (s : Shared) (e : Value) (s' : Shared),CX w [] H s (λ _ _ _ => False) e s' -> False) :
    PySem.W.WalkO q loose XP YP l.row.toRowW d [] (λ f vs => PySem.call f vs) := by
  refine Att.attach_call hn hdf λ w s₀ s₁ mg mb fa o pm cd doc a vs ns G Y ho hd hcd hmg hobj hints hlen hg => ?_
  have KX := hY w _ Y
  obtain ⟨fd,hb,hF⟩ := F w mg fa _ KX G.T.g hmg
  exact law_call KX G.T.g G.T.b G.T.builtins G.T.nolimit hg hobj hints (Nat.le_trans hlen hn2) hr hF hb (λ H hO hS => hsp w H a ns hlen hO hS) λ H e s' => hCX w H s₁ e s'
end L2
namespace L2
open PySem PySem.Spec PyProof.Rows
def inClass (s : Stmt) (j : Nat) : Stmt := match s with
  | .ClassDef _ _ _ body _ _ _ _ _ _ _ => body.getD j (.Pass ⟨0,0,0,0⟩)
  | _ => .Pass ⟨0,0,0,0⟩
def defArgs (s : Stmt) : Arguments := match s with
  | .FunctionDef _ a _ _ _ _ _ _ _ _ => a
  | _ => { posonlyargs := [],args := [],vararg := none,kwonlyargs := [],kw_defaults := [],kwarg := none,defaults := [] }
def defBody (s : Stmt) : List Stmt := match s with
  | .FunctionDef _ _ b _ _ _ _ _ _ _ => b
  | _ => []
def defScope (s : Stmt) : Scope := match s with
  | .FunctionDef _ _ _ _ _ _ sc _ _ _ => sc
  | _ => { kind := .function,names := [],isGenerator := false,isCoroutine := false }

abbrev CX0 : CXT := λ _ _ _ _ _ _ => False
abbrev E0 : XK := λ _ _ _ => False
theorem pass0 {X : Cx} : Passes CX0 X E0 := λ _ _ _ _ _ _ _ h => h.elim

structure Fun (K : PySem.W.Frag) (x qual : Str) (st : Stmt) (f : Addr) (fd : FuncData) : Prop where
  ex : ∃ (oc : Value) (od : Option Addr) (kV doc pm : Value) (an : Option Addr) (cdv ct : Value) (osl : Array (Option Value)),
    fd = PySem.W.fnOf x qual (defArgs st) (defBody st) (defScope st) .none kV doc pm an cdv ct /\ K.lookup f = some ⟨oc,od,.func fd,osl⟩ /\ PySem.W.codeIn K cdv qual = true
  kp : PySem.W.keepIn K (.ref f) = true
section
variable {P : Program} {w : World} {K : PySem.W.Frag} {mg : Str -> Option Value} {base : Heap}
theorem Fun.ok {x qual : Str} {st : Stmt} {f : Addr} {fd : FuncData} {N ps : List Str} {k : Nat} {sp : Sp} (F : Fun K x qual st f fd) (S : FnScope N ps (defScope st)) (len : ∀ vs H Q E,sp vs H Q E -> vs.length = ps.length)
    (hbody : ∀ (cdv : Value) (A : Around) (outer : List Env) (s : Shared) (H : Hp) (vs : List V) (Q : VK) (E : XK),Room k (A.deeper (envOfC qual (defScope st) s.heap.objs.size f cdv)) -> sp vs H Q E ->
      ∃ t,PSs (cxOf CX0 P w K mg base N qual (defScope st) f cdv A outer s H E).nox (defBody st) t /\ t { nx := λ _ H' => Q .non H',rt := Q } (start N vs) H) : FnOk P w K mg base CX0 (k + 1) f fd ps sp := by
  obtain ⟨oc,od,kV,doc,pm,an,cdv,ct,osl,rfl,lk,hcd⟩ := F.ex
  refine fn_of lk hcd S len λ A outer s H vs Q E hr hsp => ?_
  obtain ⟨t,h,q⟩ := hbody cdv A outer s H vs Q E hr hsp
  exact ⟨t,h.nox,q⟩
theorem Fun.binds {x qual : Str} {st : Stmt} {f : Addr} {fd : FuncData} {ps : List Str} (F : Fun K x qual st f fd)
    (h : ∀ (kV doc pm : Value) (an : Option Addr) (cdv ct : Value) (us : List Value),us.length = ps.length -> bindArgs (PySem.W.fnOf x qual (defArgs st) (defBody st) (defScope st) .none kV doc pm an cdv ct) ⟨us,[]⟩ = pure (ps.zip us)) : Binds K fd ps [] := by
  obtain ⟨oc,od,kV,doc,pm,an,cdv,ct,osl,rfl,lk,hcd⟩ := F.ex
  exact .all (h kV doc pm an cdv ct)
theorem fun_mk {x qual : Str} {st : Stmt} {f : Addr} {oc : Value} {od an : Option Addr} {osl : Array (Option Value)} {kV doc pm cdv ct : Value} (l : K.lookup f = some ⟨oc,od,.func (PySem.W.fnOf x qual (defArgs st) (defBody st) (defScope st) .none kV doc pm an cdv ct),osl⟩)
    (c : PySem.W.codeIn K cdv qual = true) (k : PySem.W.keepIn K (.ref f) = true) : Fun K x qual st f (PySem.W.fnOf x qual (defArgs st) (defBody st) (defScope st) .none kV doc pm an cdv ct) := ⟨⟨oc,od,kV,doc,pm,an,cdv,ct,osl,rfl,l,c⟩,k⟩
end
theorem hu_of {A : Around} {k : Nat} (hr : Room k A) : A.units + 1 < cLine := Nat.lt_of_le_of_lt (Nat.add_le_add_left (by decide : 1 <= 64) _) hr.units
section
variable {X : Cx}
end
theorem iteF {A B : Prop} (h : B) : if false = true then A else B := by
  rw [if_neg Bool.false_ne_true]
  exact h
theorem iteT {A B : Prop} (h : A) : if true = true then A else B := by
  rw [if_pos rfl]
  exact h
def Same (H H' : Hp) : Prop := ∀ b o,H b = some o -> H' b = some o
end L2
set_option Elab.async false
set_option linter.all false
set_option maxRecDepth 100000
namespace L2
open PySem PySem.Spec PyProof.Rows
section
variable {κ : Type} [DecidableEq κ]
def valV (kvs : List (κ × V)) (k : κ) : Option V := (kvs.find? λ kv => decide (kv.1 = k)).map (·.2)
def putK (kvs : List (κ × V)) (k : κ) (v : V) : List (κ × V) :=
  if (kvs.any λ kv => decide (kv.1 = k)) = true then kvs.map (λ kv => if kv.1 = k then (kv.1,v) else kv) else kvs ++ [(k,v)]
def dropK (kvs : List (κ × V)) (k : κ) : List (κ × V) := kvs.filter λ kv => decide (kv.1 ≠ k)

theorem valV_pos {p : κ × V} {r : List (κ × V)} {k : κ} (e : p.1 = k) : valV (p :: r) k = some p.2 := by simp [valV,List.find?_cons,e]
theorem valV_neg {p : κ × V} {r : List (κ × V)} {k : κ} (e : ¬ p.1 = k) : valV (p :: r) k = valV r k := by simp [valV,List.find?_cons,e]
theorem valV_any (k : κ) : ∀ kvs : List (κ × V),(kvs.any λ kv => decide (kv.1 = k)) = (valV kvs k).isSome
  | [] => rfl
  | p :: r => by
    rw [List.any_cons]
    by_cases e : p.1 = k
    · simp only [valV_pos e,decide_eq_true e,Bool.true_or,Option.isSome_some]
    · rw [valV_neg e,decide_eq_false e,Bool.false_or]; exact valV_any k r
theorem length_putK (kvs : List (κ × V)) (k : κ) (v : V) : (putK kvs k v).length <= kvs.length + 1 := by
  unfold putK
  split
  · rw [List.length_map]; omega
  · rw [List.length_append,List.length_cons,List.length_nil]; omega
theorem RelO.isSome_eq {o : Option V} {u : Option Value} (r : RelO o u) : o.isSome = u.isSome := by
  cases o with
  | none => cases u with
    | none => rfl
    | some _ => exact (show False from r).elim
  | some _ => cases u with
    | none => exact (show False from r).elim
    | some _ => rfl
theorem RelO.getD {o : Option V} {u : Option Value} {d : V} {d' : Value} (r : RelO o u) (rd : RelV d d') : RelV (o.getD d) (u.getD d') := by
  cases o with
  | none => cases u with
    | none => exact rd
    | some _ => exact (show False from r).elim
  | some _ => cases u with
    | none => exact (show False from r).elim
    | some _ => exact r

theorem KV.val {kvs : List (κ × V)} {vs : List (κ × Value)} (r : KV kvs vs) (k : κ) : RelO (valV kvs k) (valueAt vs k) := by
  unfold KV at r
  induction r with
  | nil => exact True.intro
  | @cons p q ps qs h t ih =>
    obtain ⟨h1,h2⟩ := h
    by_cases e : p.1 = k
    · have e' : q.1 = k := h1.symm.trans e
      have b : valueAt (q :: qs) k = some q.2 := by simp [valueAt,List.find?_cons,e']
      rw [valV_pos e,b]; exact h2
    · have e' : ¬ q.1 = k := λ z => e (h1.trans z)
      have b : valueAt (q :: qs) k = valueAt qs k := by simp [valueAt,List.find?_cons,e']
      rw [valV_neg e,b]; exact ih
theorem KV.any {kvs : List (κ × V)} {vs : List (κ × Value)} (r : KV kvs vs) (k : κ) : (kvs.any λ kv => decide (kv.1 = k)) = vs.any λ kv => decide (kv.1 = k) := by
  unfold KV at r
  induction r with
  | nil => rfl
  | cons h t ih => rw [List.any_cons,List.any_cons,ih,h.1]
theorem KV.repl {kvs : List (κ × V)} {vs : List (κ × Value)} (r : KV kvs vs) (k : κ) {y : V} {u : Value} (ry : RelV y u) :
    KV (kvs.map λ kv => if kv.1 = k then (kv.1,y) else kv) (vs.map λ kv => if kv.1 = k then (kv.1,u) else kv) := by
  unfold KV at r ⊢
  induction r with
  | nil => exact .nil
  | @cons p q ps qs h t ih =>
    rw [List.map_cons,List.map_cons]
    refine .cons ?_ ih
    obtain ⟨h1,h2⟩ := h
    by_cases e : p.1 = k
    · rw [if_pos e,if_pos (h1.symm.trans e)]; exact ⟨h1,ry⟩
    · rw [if_neg e,if_neg (λ z => e (h1.trans z))]; exact ⟨h1,h2⟩
theorem KV.put {kvs : List (κ × V)} {vs : List (κ × Value)} (r : KV kvs vs) (k : κ) {y : V} {u : Value} (ry : RelV y u) : KV (putK kvs k y) (stored vs k u) := by
  unfold putK stored
  rw [r.any k]
  by_cases e : (vs.any λ kv => decide (kv.1 = k)) = true
  · rw [if_pos e,if_pos e]; exact r.repl k ry
  · rw [if_neg e,if_neg e]; exact Paired.snoc r ⟨rfl,ry⟩
theorem KV.length {kvs : List (κ × V)} {vs : List (κ × Value)} (r : KV kvs vs) : kvs.length = vs.length := Paired.length r
end
theorem kV_is {P : Program} {w : World} {k : Key} {u : Value} (r : RelV (kV k) u) : (mixKind P w).is k u = true := by
  cases k with
  | inl i => obtain ⟨t,e⟩ := (show ∃ t,u = Value.int i t from r); subst e; exact mixKind_int P w i t
  | inr x => obtain ⟨t,e⟩ := (show ∃ t,u = Value.str x t from r); subst e; exact mixKind_str P w x t
theorem items_are {P : Program} {w : World} : ∀ {ks : List Key} {us : List Value},Vals (ks.map kV) us -> ItemsAre (mixKind P w) ks us
  | [],_,r => by rw [List.map_nil] at r; cases r; exact .nil
  | k :: ks,_,r => by
    rw [List.map_cons] at r
    cases r with
    | cons h t => exact .cons (kV_is h) (items_are t)

abbrev KT (H : Hp) : List (List Key × V) -> List (List Key × Addr × Value) -> Prop := Paired λ p q => p.1 = q.1 /\ H q.2.1 = some (.tup (p.1.map kV)) /\ RelV p.2 q.2.2
theorem KT.val {H : Hp} {kvs : List (List Key × V)} {xs : List (List Key × Addr × Value)} (r : KT H kvs xs) (k : List Key) : RelO (valV kvs k) ((atKey xs k).map (·.2)) := by
  induction r with
  | nil => exact True.intro
  | @cons p q ps qs h t ih =>
    obtain ⟨h1,_,h2⟩ := h
    by_cases e : p.1 = k
    · have e' : q.1 = k := h1.symm.trans e
      have b : atKey (q :: qs) k = some q.2 := by simp [atKey,List.find?_cons,e']
      rw [valV_pos e,b]; exact h2
    · have e' : ¬ q.1 = k := λ z => e (h1.trans z)
      have b : atKey (q :: qs) k = atKey qs k := by simp [atKey,List.find?_cons,e']
      rw [valV_neg e,b]; exact ih
theorem KT.repl {H : Hp} {kvs : List (List Key × V)} {xs : List (List Key × Addr × Value)} (r : KT H kvs xs) (k : List Key) {y : V} {u : Value} (ry : RelV y u) :
    KT H (kvs.map λ kv => if kv.1 = k then (kv.1,y) else kv) (xs.map (putAt k u)) := by
  induction r with
  | nil => exact .nil
  | @cons p q ps qs h t ih =>
    rw [List.map_cons,List.map_cons]
    refine .cons ?_ ih
    obtain ⟨h1,h2,h3⟩ := h
    unfold putAt
    by_cases e : p.1 = k
    · rw [if_pos e,if_pos (h1.symm.trans e)]; exact ⟨h1,h2,ry⟩
    · rw [if_neg e,if_neg (λ z => e (h1.trans z))]; exact ⟨h1,h2,h3⟩
theorem KT.put {H : Hp} {kvs : List (List Key × V)} {xs : List (List Key × Addr × Value)} (r : KT H kvs xs) (k : List Key) {b : Addr} {y : V} {u : Value} (hb : H b = some (.tup (k.map kV))) (ry : RelV y u) :
    KT H (putK kvs k y) (storedH xs k b u) := by
  have e : (kvs.any λ kv => decide (kv.1 = k)) = (atKey xs k).isSome := by
    rw [valV_any,(r.val k).isSome_eq,Option.isSome_map]
  unfold putK storedH
  rw [e]
  by_cases q : (atKey xs k).isSome = true
  · rw [if_pos q,if_pos q]; exact r.repl k ry
  · rw [if_neg q,if_neg q]; exact Paired.snoc r ⟨rfl,hb,ry⟩
theorem KT.keeps {H H' : Hp} {kvs : List (List Key × V)} {xs : List (List Key × Addr × Value)} (r : KT H kvs xs) (ht : ∀ b ys,H b = some (.tup ys) -> H' b = some (.tup ys)) : KT H' kvs xs :=
  Paired.mapP r λ _ _ z => ⟨z.1,ht _ _ z.2.1,z.2.2⟩

section
variable {P : Program} {w : World} {H : Hp} {h : Heap} {a : Addr}
theorem rd_of {u : HO} (ok : HOk P w H h) (e : Rd H a u) : ObjOk P w H h a u := e.ok ok
theorem dk_rd {kvs : List (Key × V)} (ok : HOk P w H h) (e : Rd H a (.dK kvs)) : kvs.length <= sizeLine /\ (a == sysModules) = false /\ ∃ vs,KV kvs vs /\ h.DictOf (mixKind P w) a vs :=
  show ObjOk P w H h a (.dK kvs) from rd_of ok e
theorem dk_of {kvs : List (Key × V)} (ok : HOk P w H h) (e : H a = some (.dK kvs)) : kvs.length <= sizeLine /\ (a == sysModules) = false /\ ∃ vs,KV kvs vs /\ h.DictOf (mixKind P w) a vs := dk_rd ok (.inl e)
theorem key_of {ks : List Key} (ok : HOk P w H h) (e : H a = some (.tup (ks.map kV))) : (tupleKind (mixKind P w)).is h ks a := by
  obtain ⟨_,its,r,o,h1,h2,n,h3⟩ := (show ObjOk P w H h a (.tup (ks.map kV)) from ok a _ e)
  exact ⟨o,its.toArray,n,h1,h2,h3,by simpa using items_are r⟩
theorem dt_rd {kvs : List (List Key × V)} (ok : HOk P w H h) (e : Rd H a (.dT kvs)) : kvs.length <= sizeLine /\ (a == sysModules) = false /\
    ∃ xs,KT H kvs xs /\ h.DictOfH (tupleKind (mixKind P w)) a xs := by
  obtain ⟨z,y,xs,r,o,es,ep,h1,h2,h3,h4,h5⟩ := (show ObjOk P w H h a (.dT kvs) from rd_of ok e)
  refine ⟨z,y,xs,r,o,es,ep,h1,h2,h3,h4,λ x hx => ?_,h5⟩
  have all : ∀ {l : List (List Key × V)} {m : List (List Key × Addr × Value)},KT H l m -> ∀ x ∈ m,(tupleKind (mixKind P w)).is h x.1 x.2.1 := by
    intro l m q
    induction q with
    | nil => intro x hx; exact nomatch hx
    | @cons p q ps qs hq t ih =>
      intro x hx
      rcases List.mem_cons.mp hx with e | hx
      · subst e
        exact key_of ok (by rw [<- hq.1]; exact hq.2.1)
      · exact ih x hx
  exact all r x hx
theorem dt_of {kvs : List (List Key × V)} (ok : HOk P w H h) (e : H a = some (.dT kvs)) : kvs.length <= sizeLine /\ (a == sysModules) = false /\
    ∃ xs,KT H kvs xs /\ h.DictOfH (tupleKind (mixKind P w)) a xs := dt_rd ok (.inl e)
end
def DGet (H : Hp) (a : Addr) (y : V) (r : Option V) : Prop :=
  (∃ kvs k,Rd H a (.dK kvs) /\ y = kV k /\ r = valV kvs k) \/ ∃ kvs k b,Rd H a (.dT kvs) /\ y = .ref b /\ H b = some (.tup (k.map kV)) /\ r = valV kvs k
def DPut (H : Hp) (a : Addr) (y v : V) (H' : Hp) : Prop :=
  (∃ kvs k,H a = some (.dK kvs) /\ y = kV k /\ kvs.length < sizeLine /\ H' = upd H a (.dK (putK kvs k v))) \/
  ∃ kvs k b,H a = some (.dT kvs) /\ y = .ref b /\ H b = some (.tup (k.map kV)) /\ kvs.length < sizeLine /\ H' = upd H a (.dT (putK kvs k v))
section
variable {X : Cx} {pins : List (Addr × Obj)} {σ : St} {H : Hp} {s : Shared} {a : Addr} {y v : V} {u r : Value} {o : Option V} {A : Around} {E : Value -> Shared -> Prop}
theorem Inv.big (I : Inv X pins σ H s) : sysModules < s.heap.objs.size := by
  have h : mainGlobals < s.heap.objs.size := (I.mod.glob.keeps I.bk).lt
  exact Nat.lt_trans (by decide) h

theorem d_write {h' : Heap} {t' : Nat} {ob : HO} (I : Inv X pins σ H s) (mu : Mut (H a)) (hs : Heap.SameBut a s.heap h') (he : ∃ q,h'.get? a = some q) (new : ObjOk X.prog X.w (upd H a ob) h' a ob) :
    Inv X pins σ (upd H a ob) { s with heap := h',toks := t' } :=
  I.write (x := a) (e := a) mu (.inl rfl) (λ b q hb z => (hs.2 b hb).trans z) he new
theorem dk_new {P : Program} {w : World} {H' : Hp} {h' : Heap} {kvs : List (Key × V)} {vs : List (Key × Value)} (z : kvs.length <= sizeLine) (hd : (a == sysModules) = false) (rel : KV kvs vs) (dd : h'.DictOf (mixKind P w) a vs) :
    ObjOk P w H' h' a (.dK kvs) := ⟨z,hd,vs,rel,dd⟩
theorem d_setItem {H' : Hp} {Q : Unit -> Shared -> Prop} (hu : A.units + 1 < cLine) (I : Inv X pins σ H s) (g : DPut H a y v H') (ry : RelV y u) (rv : RelV v r) (h : ∀ s',Inv X pins σ H' s' -> Q () s') :
    wpAny (model X.prog X.w) A (setItem (.ref a) u r) Q E s := by
  rcases g with ⟨kvs,k,e,ey,l,eH⟩ | ⟨kvs,k,b,e,ey,eb,l,eH⟩
  · subst ey eH
    obtain ⟨z,hd,vs,rel,dd⟩ := dk_of I.hok e
    have hz : vs.length <= sizeLine := by rw [<- rel.length]; exact z
    have hl : (putK kvs k v).length <= sizeLine := by have := length_putK kvs k v; omega
    refine wpAny_setItem_pairs (hsz := hz) (kV_is ry) dd λ h' dd' hs => h _ ?_
    have he : ∃ q,h'.get? a = some q := let ⟨q,_,_,hq,_⟩ := dd'; ⟨q,hq⟩
    exact d_write I (by rw [e]; exact True.intro) hs he (dk_new hl hd (rel.put k rv) dd')
  · subst ey eH
    cases (show u = Value.ref b from ry)
    obtain ⟨z,hd,xs,rel,dd⟩ := dt_of I.hok e
    have hz : xs.length <= sizeLine := by rw [<- Paired.length rel]; exact z
    have hl : (putK kvs k v).length <= sizeLine := by have := length_putK kvs k v; omega
    refine wpAny_setItem_heap (hsz := hz) (tupleKind_room_in1 hu) (key_of I.hok eb) dd λ h' dd' hs => h _ ?_
    obtain ⟨q,es,ep,hq,h2,h3,h4,_,h5⟩ := dd'
    refine d_write I (by rw [e]; exact True.intro) hs ⟨q,hq⟩ ⟨hl,hd,_,(rel.put k eb rv).keeps λ c ys ec => ?_,q,es,ep,hq,h2,h3,h4,h5⟩
    rw [upd_ne (ne_of ec e (λ z => nomatch z))]
    exact ec
end
section
variable {X : Cx} {pins : List (Addr × Obj)} {σ : St} {H : Hp} {s : Shared} {a : Addr} {kvs : List (Key × V)} {k : Key} {u : Value} {A : Around} {E : Value -> Shared -> Prop}
end
def NoSl (i : Expr) : Prop := ∀ ov iv,subscripted i false ov iv = operate [ov,iv] (getItem ov iv)
theorem subD_of {prog : Program} {w : World} {A : Around} {E : Value -> Shared -> Prop} {s : Shared} {env : Env} {value slice : Expr} {pos : Pos} {T id : String} {Q : Value -> Shared -> Prop}
    (hl : typeLookup (.type T) "__getitem__" = pure (some (.builtin id))) (hs : NoSl slice)
    (h : wpAny (model prog w) A (eval value env) (λ o s₁ => wpAny (model prog w) A (eval slice env) (λ i s₂ => s₂.TypeIs o T /\ wpAny (model prog w) A (getItem o i) Q E s₂) E s₁) E s) :
    wpAny (model prog w) A (eval (.Subscript value slice pos) env) Q E s := by
  refine Subscript_ (wpAny_mono h (λ o s₁ h₁ => wpAny_mono h₁ (λ i s₂ h₂ => ?_) λ _ _ x => x) λ _ _ x => x)
  obtain ⟨hT,h₂⟩ := h₂
  unfold subscriptTail
  refine wpAny_bind ?_
  rw [getitemInPython_of_ne hT.not_modules]
  refine wpAny_bind (wpAny_specialOf hT hl ?_)
  have fin : wpAny (model prog w) A (subscripted slice false o i) (λ r s₃ => wpAny (model prog w) A (letTemporaryGo value o r >>= λ _ => pure r) Q E s₃) E s₂ := by
    rw [hs o i]
    exact wpAny_operating (wpAny_mono h₂ (λ r s₃ h₃ => wpAny_bind (wpAny_letTemporaryGo (wpAny_pure h₃))) λ _ _ x => x)
  first
    | exact wpAny_pure (wpAny_bind fin)
    | exact wpAny_bind (wpAny_pure (wpAny_bind fin))
    | exact wpAny_bind fin

def sDPut (td ty tv : TE) : TS := λ D σ H => tv σ H λ v H1 => td σ H1 λ x H2 => ty σ H2 λ y H3 => ∃ a H4,x = .ref a /\ DPut H3 a y v H4 /\ D.nx σ H4
section
variable {X : Cx} {o i e value : Expr} {pos pos' tpos : Pos} {td ty tv : TE}
theorem ps_dput (hu : X.A.units + 1 < cLine) (ho : PE X o td) (hi : PE X i ty) (hv : PE X value tv) (hs : swapsWith value (some (.Subscript o i pos')) pos.line X.env = pure false) :
    PS X (.Assign [.Subscript o i pos'] value pos) (sDPut td ty tv) := by
  intro pins s σ H D I h
  refine wpAny_Assign_Subscript (thn (hv pins s σ H _ I h) λ r s1 ⟨v,H1,I1,rv,q1⟩ => thn (ho pins s1 σ H1 _ I1 q1) λ u s2 ⟨x,H2,I2,rx,q2⟩ => thn (hi pins s2 σ H2 _ I2 q2) λ iv s3 ⟨y,H3,I3,ry,a,H4,ex,g,q3⟩ => ?_) hs
  subst ex
  obtain rfl : u = Value.ref a := rx
  exact d_setItem hu I3 g ry rv λ s4 I4 => ⟨σ,H4,I4,q3⟩
end
theorem dk_empty {P : Program} {w : World} {H : Hp} (h : Heap) (hb : sysModules < h.objs.size) : ObjOk P w H (h.push { cls := .type "dict",data := .dict #[] }) h.objs.size (.dK []) :=
  ⟨Nat.zero_le _,beq_eq_false_iff_ne.mpr (Ne.symm (Nat.ne_of_lt hb)),[],.nil,Heap.DictOf.new h⟩
def tDNewK : TE := λ _ H Q => ∀ p,H p = none -> Q (.ref p) (upd H p (.dK []))
section
variable {X : Cx} {pos : Pos}
theorem pe_dnewK : PE X (.Dict [] [] pos) tDNewK := λ pins s σ H Q I h =>
  wpAny_Dict_empty ⟨.ref s.heap.objs.size,_,I.laid (a := s.heap.objs.size) (o := .dK []) (t' := s.toks) (λ _ _ q => Heap.get?_push_of_some _ q) (Nat.le_refl _) (dk_empty s.heap I.big),rfl,h _ (I.hok.fresh (Nat.le_refl _))⟩
end
structure M1 (X : Cx) (o : Expr) (m : Str) (apos : Pos) (e : Expr) (cpos : Pos) : Prop where
  base : attributeBase o m X.env (eval o X.env) = eval o X.env
  few : ((backTo cpos (starEach [e] X.env)).all (λ x => !x.1) && (backToKw cpos (keywordEach [] X.env)).all (λ x => x.1.isSome)
    && decide (([e] : List Expr).length + ([] : List Keyword).length + (if ([] : List Keyword).isEmpty then 0 else 1) < 30)) = true
  line : (apos.endLine == cpos.line) = true
  trees : backTo cpos (starEach [e] X.env) = [(false,eval e X.env)]
structure M2 (X : Cx) (o : Expr) (m : Str) (apos : Pos) (e f : Expr) (cpos : Pos) : Prop where
  base : attributeBase o m X.env (eval o X.env) = eval o X.env
  few : ((backTo cpos (starEach [e,f] X.env)).all (λ x => !x.1) && (backToKw cpos (keywordEach [] X.env)).all (λ x => x.1.isSome)
    && decide (([e,f] : List Expr).length + ([] : List Keyword).length + (if ([] : List Keyword).isEmpty then 0 else 1) < 30)) = true
  line : (apos.endLine == cpos.line) = true
  trees : backTo cpos (starEach [e,f] X.env) = [(false,eval e X.env),(false,eval f X.env)]

def IsD (H : Hp) (a : Addr) : Prop := (∃ kvs,Rd H a (.dK kvs)) \/ ∃ kvs,Rd H a (.dT kvs)
theorem isD_at {X : Cx} {pins : List (Addr × Obj)} {σ : St} {H : Hp} {s : Shared} {a : Addr} (I : Inv X pins σ H s) (d : IsD H a) :
    s.TypeIs (.ref a) "dict" /\ (∀ b,Value.ref a = .ref b -> ∃ ob,s.heap.get? b = some ob /\ ob.dict = none) /\ (a == sysModules) = false := by
  rcases d with ⟨kvs,e⟩ | ⟨kvs,e⟩
  · obtain ⟨_,hd,vs,_,dd⟩ := dk_rd I.hok e
    refine ⟨dd.typeIs,λ b q => ?_,hd⟩
    cases q
    obtain ⟨ob,_,_,h1,h2,_⟩ := dd
    exact ⟨ob,h1,h2.2.1⟩
  · obtain ⟨_,hd,xs,_,dd⟩ := dt_rd I.hok e
    refine ⟨dd.typeIs,λ b q => ?_,hd⟩
    cases q
    obtain ⟨ob,_,_,h1,h2,_⟩ := dd
    exact ⟨ob,h1,h2.2.1⟩

section
variable {X : Cx} {pins : List (Addr × Obj)} {σ : St} {H : Hp} {s : Shared} {a : Addr} {y d : V} {u r : Value} {o : Option V} {A : Around} {E : Value -> Shared -> Prop}
end
section
variable {X : Cx} {o e f : Expr} {apos cpos : Pos} {td ty tx : TE}
end
section
variable {X : Cx} {pins : List (Addr × Obj)} {σ : St} {H : Hp} {s : Shared} {a : Addr} {kvs : List (Key × V)} {A : Around} {E : Value -> Shared -> Prop}
theorem d_copyOf {Q : Value -> Shared -> Prop} (I : Inv X pins σ H s) (e : Rd H a (.dK kvs)) (h : ∀ p s',H p = none -> Inv X pins σ (upd H p (.dK kvs)) s' -> Q (.ref p) s') : wpAny (model X.prog X.w) A (call (.type "dict") [.ref a]) Q E s := by
  obtain ⟨z,hd,vs,rel,dd⟩ := dk_rd I.hok e
  refine kt_call_dict hd dd (by rw [<- rel.length]; exact z) λ h' dd' hs => ?_
  refine h _ _ (I.hok.fresh (Nat.le_refl _)) (I.laid (a := s.heap.objs.size) (o := .dK kvs) (t' := s.toks) (λ b q hq => ?_) (Nat.le_refl _) (dk_new z (beq_eq_false_iff_ne.mpr (Ne.symm (Nat.ne_of_lt I.big))) rel dd'))
  exact (hs.2 b (Nat.ne_of_lt (Heap.lt_size hq))).trans (Heap.get?_push_of_some _ hq)
end
section
variable {X : Cx} {pins : List (Addr × Obj)} {σ : St} {H : Hp} {s : Shared} {a : Addr} {y : V} {u : Value} {A : Around} {E : Value -> Shared -> Prop}
end
end L2
set_option Elab.async false
set_option linter.all false
set_option maxRecDepth 100000
set_option maxHeartbeats 4000000
namespace L2
open PySem PySem.Spec PyProof.Rows
def Fz : HO -> Prop
  | .lst _ => True
  | .dK _ => True
  | _ => False
section
variable {X : Cx} {pins : List (Addr × Obj)} {σ : St} {H : Hp} {s : Shared} {p : Addr} {u : HO}
theorem un_frz {fs ex : List Addr} {h : Heap} {o : Obj} (e : H p = some u) (f : Fz u) : Un fs ex H (upd H p (.frz o u)) h h where
  keep := λ b ob q _ _ _ => q
  slot := λ b ob q _ _ _ => ⟨ob.slots,q⟩
  free := λ b ob _ n _ => by rw [upd_ne (Ne.symm (ne_of_none e n))]; exact n
  there := λ b ob q _ => ⟨ob,q⟩
  tups := λ b xs q => by
    have : b ≠ p := λ z => by subst z; rw [e] at q; cases q; exact f
    rw [upd_ne this]; exact q
  frzs := λ b ob v q => by
    have : b ≠ p := λ z => by subst z; rw [e] at q; cases q; exact f
    rw [upd_ne this]; exact q
  tbls := λ b ps q => by
    have : b ≠ p := λ z => by subst z; rw [e] at q; cases q; exact f
    exact ⟨#[],by rw [upd_ne this,q]; simp⟩
theorem ObjOk.anyH {P : Program} {w : World} {H H' : Hp} {h : Heap} {a : Addr} (f : Fz u) (x : ObjOk P w H h a u) : ObjOk P w H' h a u := by
  cases u with
  | lst xs => exact x
  | dK kvs => exact x
  | _ => exact f.elim
theorem ObjOk.obj {P : Program} {w : World} {H : Hp} {h : Heap} {a : Addr} (f : Fz u) (x : ObjOk P w H h a u) : ∃ o,h.get? a = some o := by
  cases u with
  | lst xs => obtain ⟨_,_,_,_,e⟩ := x; exact ⟨_,e⟩
  | dK kvs => obtain ⟨_,_,_,_,o,_,_,e,_⟩ := x; exact ⟨o,e⟩
  | _ => exact f.elim
theorem Inv.freeze (I : Inv X pins σ H s) (e : H p = some u) (f : Fz u) : ∃ o,Inv X pins σ (upd H p (.frz o u)) s := by
  obtain ⟨o,ho⟩ := (I.hok p u e).obj f
  refine ⟨o,I.un (h' := s.heap) (t' := s.toks) (un_frz e f) λ b v q => ?_⟩
  by_cases hb : b = p
  · subst hb
    rw [upd_same] at q
    cases q
    exact ⟨ho,(I.hok b u e).anyH f⟩
  · rw [upd_ne hb] at q
    refine (I.hok b v q).stay (λ _ _ _ q => q) (λ c r => ?_) λ c xs r => ?_
    · have : c ≠ p := λ z => by subst z; rw [e] at r; cases r; exact f
      rw [upd_ne this]; exact r
    · have : c ≠ p := λ z => by subst z; rw [e] at r; cases r; exact f
      rw [upd_ne this]; exact r
def tFrz (t : TE) : TE := λ σ H Q => t σ H λ v H1 => ∃ p u,v = .ref p /\ H1 p = some u /\ Fz u /\ ∀ o,Q v (upd H1 p (.frz o u))
theorem pe_frz {e : Expr} {t : TE} (h : PE X e t) : PE X e (tFrz t) := by
  intro pins s σ H Q I hq
  refine thn (h pins s σ H _ I hq) λ v s1 hq26 => ?_
  obtain ⟨x,H1,I1,r1,p,u,e1,e2,f,q⟩ := hq26
  obtain ⟨o,I2⟩ := I1.freeze e2 f
  exact ⟨x,_,I2,r1,q o⟩

theorem Inv.track {D : Addr} {ys : List V} {us : List Value} {n : Nat} (I : Inv X pins σ H s) (e : s.heap.get? D = some { cls := .type "list",data := .seq us.toArray n }) (hn : H D = none) (hv : Vals ys us) (hz : ys.length <= sizeLine)
    (h0 : X.s₀.heap.objs.size <= D) (hL : D ≠ X.env.locals) (hc : ∀ x c,X.env.cells.lookup x = some c -> c ≠ D) (hp : ∀ p ∈ X.pn ++ pins,p.1 ≠ D) : Inv X pins σ (upd H D (.lst ys)) s := by
  have ne : ∀ b u,H b = some u -> b ≠ D := λ b u q => ne_of_none q hn
  refine I.step (h' := s.heap) (g' := s.gens) (d' := s.drawn) (t' := s.toks) (ch := [D]) (λ b hb => ?_) (λ b o _ _ _ q _ => q) (λ b o _ _ _ q _ => ⟨o.slots,q⟩) (λ b o hb q n => ?_) (λ b o _ q => ⟨o,q⟩)
    (λ b xs q => by rw [upd_ne (ne b _ q)]; exact q) (λ b o u q => by rw [upd_ne (ne b _ q)]; exact q) (λ b ps q => ⟨#[],by rw [upd_ne (ne b _ q),q]; simp⟩) (λ m hm => hm) (λ b u q => ?_) I.bare
  · have e : b = D := by simpa using hb
    subst e
    exact ⟨.inr h0,hL,hc,hp⟩
  · rw [upd_ne (λ z => hb (by simp [z]))]; exact n
  · by_cases hb : b = D
    · subst hb
      rw [upd_same] at q
      cases q
      exact ⟨hz,us,n,hv,e⟩
    · rw [upd_ne hb] at q
      exact (I.hok b u q).stay (λ _ _ _ q => q) (λ c r => by rw [upd_ne (ne c _ r)]; exact r) λ c xs r => by rw [upd_ne (ne c _ r)]; exact r
end
section
variable {prog : Program} {w : World} {A : Around} {E : Value -> Shared -> Prop} {R : Result -> Shared -> Prop} {s : Shared}
abbrev testsOf (ifs : List Expr) (env : Env) : Sem Bool := forIn ifs true λ c r => if r = true then do let ok <- isTrue c env (eval c env); pure (ForInStep.yield ok) else pure (ForInStep.yield r)
theorem compLoop_own {elt target iter : Expr} {ifs : List Expr} {scope : Scope} {pos : Pos} {it acc : Value} {env : Env} (I : Nat -> Shared -> Prop)
    (turn : ∀ n s,I n s -> wpAny (model prog w) A (pyNext it) (λ r s₁ => match r with
      | none => R (.ok .next) s₁
      | some v => wpAny (model prog w) A (letOwnedTupleGo target it v) (λ _ s₁' => wpAny (model prog w) A (assign target env v) (λ _ s₂ =>
          wpAny (model prog w) A (testsOf ifs env) (λ ok s₃ =>
            if ok = true then wpAny (model prog w) A (eval elt env) (λ x s₄ =>
              wpAny (model prog w) A (call (.builtin "list.append") [acc,x]) (λ _ s₅ => ∃ m,m < n /\ I m s₅) (λ _ _ => False) s₄) (λ _ _ => False) s₃
            else ∃ m,m < n /\ I m s₃) (λ _ _ => False) s₂) (λ _ _ => False) s₁') (λ _ _ => False) s₁) (λ _ _ => False) s)
    (n : Nat) (h : I n s) :
    codeAny (model prog w) A (.compLoop (.ListComp elt [⟨target,iter,ifs,0⟩] scope pos) 0 it acc env) R s := by
  refine codeAny_loop rfl I (λ n s hI => ?_) n h
  show wpAny _ A ((compTurn (.ListComp elt [⟨target,iter,ifs,0⟩] scope pos) 0 it acc env).onRaise (λ x => do noteFrame x env; theTreesLotGoes x)) _ _ s
  refine wpAny_noted ?_
  rw [compTurn_list]
  refine wpAny_bind (wpAny_standAt (wpAny_bind (wpAny_mono (turn n s hI) (λ r s₁ h₁ => ?_) λ _ _ h' => h'.elim)))
  cases r with
  | none => exact wpAny_pure h₁
  | some v =>
    refine wpAny_bind (wpAny_mono h₁ (λ _ s₁' h₁' => ?_) λ _ _ h' => h'.elim)
    refine wpAny_bind (wpAny_mono h₁' (λ _ s₂ h₂ => wpAny_bind (wpAny_mono h₂ (λ ok s₃ h₃ => ?_) λ _ _ h' => h'.elim)) λ _ _ h' => h'.elim)
    cases ok with
    | false => exact wpAny_pure ⟨rfl,h₃⟩
    | true =>
      exact wpAny_bind (wpAny_bind (wpAny_mono h₃ (λ x s₄ h₄ => wpAny_bind (wpAny_mono h₄ (λ _ s₅ h₅ => wpAny_pure (wpAny_pure ⟨rfl,h₅⟩)) λ _ _ h' => h'.elim)) λ _ _ h' => h'.elim))
end
theorem closure_some {scope : Scope} {env : Env} (h : ∀ x ∈ scope.names,x.2 = .free -> ∃ c,env.cells.lookup x.1 = some c) :
    ∃ cl,closureFor scope env = pure cl /\ (∀ n c,cl.lookup n = some c -> env.cells.lookup n = some c) /\ (∀ n,(n,NameKind.free) ∈ scope.names -> ∃ c,cl.lookup n = some c) := by
  have key : ∀ (l : List (Str × NameKind)) (cs : List (Str × Addr)),(∀ x ∈ l,x.2 = .free -> ∃ c,env.cells.lookup x.1 = some c) -> (∀ n c,cs.lookup n = some c -> env.cells.lookup n = some c) ->
      ∃ cl : List (Str × Addr),(forIn l cs λ x r => match x with
        | (name,kind) => if (kind == NameKind.free) = true then do let a <- cellOf env name; pure (ForInStep.yield ((name,a) :: r)) else pure (ForInStep.yield r) : Sem (List (Str × Addr))) = pure cl /\
        (∀ n c,cl.lookup n = some c -> env.cells.lookup n = some c) /\ (∀ n c,cs.lookup n = some c -> ∃ c,cl.lookup n = some c) /\ (∀ n,(n,NameKind.free) ∈ l -> ∃ c,cl.lookup n = some c) := by
    intro l
    induction l with
    | nil => intro cs _ hc; exact ⟨cs,rfl,hc,λ n c e => ⟨c,e⟩,λ n hn => nomatch hn⟩
    | cons x l ih =>
      intro cs hl hc
      obtain ⟨name,kind⟩ := x
      by_cases hk : kind = .free
      · subst hk
        obtain ⟨c,e⟩ := hl (name,.free) List.mem_cons_self rfl
        obtain ⟨cl,h1,h2,h3,h4⟩ := ih ((name,c) :: cs) (λ y hy => hl y (List.mem_cons_of_mem _ hy)) (λ n d q => by
          rw [List.lookup_cons] at q
          cases hb : n == name with
          | true =>
            rw [hb] at q
            cases q
            rw [eq_of_beq hb]; exact e
          | false =>
            rw [hb] at q
            exact hc n d q)
        refine ⟨cl,?_,h2,λ n d q => ?_,λ n hn => ?_⟩
        · rw [List.forIn_cons]
          simp only [beq_self_eq_true,if_true,cellOf,e,pure_bind]
          exact h1
        · cases hb : n == name with
          | true => exact h3 n c (by rw [List.lookup_cons,hb])
          | false => exact h3 n d (by rw [List.lookup_cons,hb]; exact q)
        · rcases List.mem_cons.mp hn with z | z
          · cases z
            exact h3 name c (by rw [List.lookup_cons]; simp)
          · exact h4 n z
      · obtain ⟨cl,h1,h2,h3,h4⟩ := ih cs (λ y hy => hl y (List.mem_cons_of_mem _ hy)) hc
        refine ⟨cl,?_,h2,h3,λ n hn => ?_⟩
        · rw [List.forIn_cons]
          have : (kind == NameKind.free) = false := by simpa using hk
          simp only [this,Bool.false_eq_true,if_false,pure_bind]
          exact h1
        · rcases List.mem_cons.mp hn with z | z
          · cases z; exact absurd rfl hk
          · exact h4 n z
  obtain ⟨cl,h1,h2,_,h4⟩ := key scope.names [] h (λ n c e => by simp at e)
  refine ⟨cl,?_,h2,h4⟩
  unfold closureFor
  simp only [bind_pure]
  exact h1
theorem relabel_free {sc : Scope} {env : Env} {x : Str} : ∀ {names : List (Str × NameKind)},(names.map λ (n,k) => if (k == NameKind.free && env.scope.kind == .function && env.kindOf n == some .cell) then (n,NameKind.cell) else (n,k)).lookup x = some .cell \/
    (names.map λ (n,k) => if (k == NameKind.free && env.scope.kind == .function && env.kindOf n == some .cell) then (n,NameKind.cell) else (n,k)).lookup x = some .free -> (∀ y ∈ names,y.2 ≠ .cell) -> (x,NameKind.free) ∈ names
  | [],h,_ => by simp at h
  | (n,k) :: r,h,hc => by
    have ih := @relabel_free sc env x r
    by_cases hk : (k == NameKind.free && env.scope.kind == .function && env.kindOf n == some .cell) = true
    · simp only [List.map_cons,if_pos hk,List.lookup_cons] at h
      cases hx : x == n with
      | true =>
        have e := eq_of_beq hx
        subst e
        simp only [Bool.and_eq_true] at hk
        have := eq_of_beq hk.1.1
        subst this
        exact List.mem_cons_self
      | false =>
        rw [hx] at h
        exact List.mem_cons_of_mem _ (ih h λ y hy => hc y (List.mem_cons_of_mem _ hy))
    · simp only [List.map_cons,if_neg hk,List.lookup_cons] at h
      cases hx : x == n with
      | true =>
        rw [hx] at h
        have e := eq_of_beq hx
        subst e
        rcases h with h | h
        · cases h; exact absurd rfl (hc (x,.cell) List.mem_cons_self)
        · cases h; exact List.mem_cons_self
      | false =>
        rw [hx] at h
        exact List.mem_cons_of_mem _ (ih h λ y hy => hc y (List.mem_cons_of_mem _ hy))
theorem relabel_lookup_free {env : Env} {x : Str} : ∀ {names : List (Str × NameKind)},names.lookup x = some .free ->
    (names.map λ (n,k) => if (k == NameKind.free && env.scope.kind == .function && env.kindOf n == some .cell) then (n,NameKind.cell) else (n,k)).lookup x = some .cell \/
    (names.map λ (n,k) => if (k == NameKind.free && env.scope.kind == .function && env.kindOf n == some .cell) then (n,NameKind.cell) else (n,k)).lookup x = some .free
  | [],h => by simp at h
  | (n,k) :: r,h => by
    have ih := @relabel_lookup_free env x r
    by_cases hk : (k == NameKind.free && env.scope.kind == .function && env.kindOf n == some .cell) = true
    · simp only [List.map_cons,if_pos hk,List.lookup_cons]
      cases hx : x == n with
      | true => exact .inl rfl
      | false => rw [List.lookup_cons,hx] at h; exact ih h
    · simp only [List.map_cons,if_neg hk,List.lookup_cons]
      cases hx : x == n with
      | true => rw [List.lookup_cons,hx] at h; exact .inr h
      | false => rw [List.lookup_cons,hx] at h; exact ih h
def blk (X : Cx) (sc : Scope) (N' : List Str) (cl : List (Str × Addr)) (C : Addr) (s : Shared) (H : Hp) (ex : List Addr) (pins : List (Addr × Obj)) : Cx :=
  { X with N := N',s₀ := s,H₀ := H,env := compEnvC sc cl C X.env,outer := X.stack,ex := ex,fn := λ _ => false,pn := X.pn ++ pins,xe := λ _ _ => False }
def lcN (X : Cx) (own : List Str) (fr : List Nat) : List Str := own ++ fr.map λ j => X.N.getD j Str.empty
def lcS (k : Nat) (fr : List Nat) (σ : St) : St := List.replicate k none ++ fr.map λ j => (σ[j]?).getD none
def frOk (N : List Str) (sc : Scope) (fr : List Nat) : Bool := fr.all λ j => match N[j]? with
  | some x => sc.names.lookup x == some .free
  | none => false
structure LcOk (X : Cx) (sc : Scope) (own : List Str) (fr : List Nat) : Prop where
  kind : sc.kind = .function
  cell : ∀ y ∈ sc.names,y.2 ≠ .cell
  free : ∀ y ∈ sc.names,y.2 = .free -> (X.env.kindOf y.1 = some .cell \/ X.env.kindOf y.1 = some .free)
  names : ∀ y ∈ sc.names,y.2 = .local -> sc.names.lookup y.1 = some .local
  fr : frOk X.N sc fr = true
def PTs (X : Cx) (ifs : List Expr) (t : TT) : Prop :=
  ∀ (pins : List (Addr × Obj)) (s : Shared) (σ : St) (H : Hp) (Q : Bool -> Hp -> Prop),Inv X pins σ H s -> t σ H Q -> wpAny (model X.prog X.w) X.A (testsOf ifs X.env) (TP X pins σ Q) X.xe s
def tYes : TT := λ _ H Q => Q true H
theorem pts_nil {X : Cx} : PTs X [] tYes := λ _ _ _ H _ I h => wpAny_tests_nil ⟨H,I,h⟩
theorem pts_one {X : Cx} {c : Expr} {t : TT} (h : PT X c t) : PTs X [c] t := λ pins s σ H Q I q => wpAny_tests_one (h pins s σ H Q I q)

section
variable {X : Cx} {pins : List (Addr × Obj)} {σ : St} {H : Hp} {s : Shared} {sc : Scope} {own : List Str} {fr : List Nat} {cl : List (Str × Addr)} {fp : List Addr} {C D : Addr} {s1 : Shared}
theorem frOk_get {N : List Str} {sc : Scope} {fr : List Nat} (h : frOk N sc fr = true) {j : Nat} (hj : j ∈ fr) : ∃ x,N[j]? = some x /\ sc.names.lookup x = some .free := by
  have q := List.all_eq_true.mp h j hj
  cases e : N[j]? with
  | none => simp [e] at q
  | some x =>
    simp only [e] at q
    exact ⟨x,rfl,eq_of_beq q⟩
theorem blk_ok (L : LcOk X sc own fr) (I : Inv X pins σ H s) (hf : ∀ b ∈ fp,FpOk X pins H b) (hb : ∀ b ∈ fp,b < s.heap.objs.size) (hC : s.heap.objs.size <= C)
    (c1 : ∀ n c,cl.lookup n = some c -> X.env.cells.lookup n = some c) (c2 : ∀ n,(n,NameKind.free) ∈ sc.names -> ∃ c,cl.lookup n = some c) : (blk X sc (lcN X own fr) cl C s H fp pins).Ok where
  mod := I.ok.mod
  kind := L.kind
  glob := I.ok.glob
  blt := I.ok.blt
  above := hC
  inj := λ x y c a b => I.ok.inj x y c (c1 _ _ a) (c1 _ _ b)
  has := λ x hx => c2 x (relabel_free (sc := sc) (env := X.env) hx L.cell)
  cab := λ x c z => absurd (show false = true from z) Bool.false_ne_true
  hd := I.ok.hd
  frames := I.ok.frames
  stk := .inl rfl
  exf := λ b z => ⟨Nat.ne_of_lt (Nat.lt_of_lt_of_le (hb b z) hC),λ x c e => (hf b z).2.2.2.2.1 x c (c1 _ _ e)⟩
  bs := I.bs
  bsz := Nat.le_trans I.ok.bsz I.sz
  noex := λ b o e z => by
    rcases (hf b z).2.2.2.1 with q | q
    · exact I.ok.noex b o e q
    · exact absurd (Nat.lt_of_lt_of_le (Heap.lt_size e) (Nat.le_trans I.ok.bsz q)) (Nat.lt_irrefl _)
  exfs := λ b z q => by
    rcases List.mem_cons.mp (I.stkSub b q) with e | e
    · exact (hf b z).2.1 e
    · exact (hf b z).2.2.1 e
  funs := I.stack
  frf := I.stkFree
theorem blk_inv (L : LcOk X sc own fr) (I : Inv X pins σ H s) (hf : ∀ b ∈ fp,FpOk X pins H b) (hb : ∀ b ∈ fp,b < s.heap.objs.size) (hC : s.heap.objs.size <= C)
    (c1 : ∀ n c,cl.lookup n = some c -> X.env.cells.lookup n = some c) (c2 : ∀ n,(n,NameKind.free) ∈ sc.names -> ∃ c,cl.lookup n = some c)
    {h1 : Heap} {tk : Nat} {m : Str -> Option Value} (hn : h1.Ns C m) (k : ∀ b o,s.heap.get? b = some o -> h1.get? b = some o) :
    Inv (blk X sc (lcN X own fr) cl C s H fp pins) [] (lcS own.length fr σ) H { s with heap := h1,toks := tk } := by
  have ok := blk_ok L I hf hb hC c1 c2
  refine ⟨ok,rfl,I.bare,Un.kept k,⟨m,hn,λ i x v e1 e2 e3 => ?_⟩,λ x c e => ?_,I.hok.fresh hC,λ x c e => I.freeC x c (c1 _ _ e),λ p hp => ?_,I.hok.kept k,?_⟩
  · -- one of the names around
    have hi : ¬ i < own.length := λ hi => by
      unfold lcS at e2
      rw [List.getElem?_append_left (by simpa using hi),List.getElem?_replicate] at e2
      split at e2 <;> cases e2
    have e1' : (lcN X own fr)[i]? = some x := e1
    unfold lcN at e1'
    unfold lcS at e2
    rw [List.getElem?_append_right (by omega),List.getElem?_map] at e1'
    rw [List.getElem?_append_right (by simpa using hi),List.getElem?_map,List.length_replicate] at e2
    cases q : fr[i - own.length]? with
    | none => rw [q] at e1'; cases e1'
    | some j =>
      rw [q] at e1' e2
      obtain ⟨y,hy,hyf⟩ := frOk_get L.fr (List.mem_of_getElem? q)
      have ex : y = x := by
        have := Option.some.inj e1'
        rw [<- this]
        simp [List.getD,hy]
      subst ex
      have ev : σ[j]? = some (some v) := by
        have z : (σ[j]?).getD none = some v := Option.some.inj e2
        cases w : σ[j]? with
        | none => rw [w] at z; cases z
        | some o => rw [w] at z; exact congrArg some z
      have hm : (y,NameKind.free) ∈ sc.names := PySem.mem_of_lookup hyf
      have hk := L.free _ hm rfl
      have vis : Vis X.env.scope y := by
        rcases hk with z | z
        · exact .inr (.inl z)
        · exact .inr (.inr z)
      obtain ⟨m0,hn0,hl⟩ := I.loc
      obtain ⟨u,r,l⟩ := hl j y v hy ev vis
      refine ⟨u,r,.inr ⟨?_,?_⟩⟩
      · exact relabel_lookup_free (env := X.env) hyf
      · obtain ⟨c,hc⟩ := c2 y hm
        rcases l with ⟨z,_⟩ | ⟨_,c',hc',hcell⟩
        · rcases hk with q | q
          · exact absurd (show X.env.kindOf y = some .local from z) (by rw [q]; decide)
          · exact absurd (show X.env.kindOf y = some .local from z) (by rw [q]; decide)
        · have : c = c' := Option.some.inj ((c1 _ _ hc).symm.trans hc')
          subst this
          obtain ⟨o,ho,hd⟩ := hcell
          exact ⟨c,hc,o,k _ _ ho,hd⟩
  · obtain ⟨v,o,ho,hd⟩ := I.cell x c (c1 _ _ e)
    exact ⟨v,o,k _ _ ho,hd⟩
  · have hp' : p ∈ X.pn ++ pins := by simpa [blk] using hp
    obtain ⟨a1,a2,a3,a4,a5⟩ := I.pin p hp'
    refine ⟨k _ _ a1,a2,Nat.ne_of_lt (Nat.lt_of_lt_of_le (Heap.lt_size a1) hC),λ q => ?_,a5⟩
    rcases List.mem_cons.mp (I.stkSub _ q) with e | e
    · exact a3 e
    · exact a4 e
  · show (lcS own.length fr σ).length = (lcN X own fr).length
    simp [lcS,lcN]
end
abbrev LcW := Nat -> Nat -> List V -> St -> Hp -> Prop
def lcStep (J : It) (g : TG) (tt : TT) (te : TE) (W : LcW) (Fin : List V -> Hp -> Prop) : Prop := ∀ i m ys τ H,W i m ys τ H ->
  (J.stop i H /\ Fin ys H) \/ (J.go i H /\ ys.length < sizeLine /\ ∀ x H',J.yld i H x H' -> g x τ H' λ τ2 H2 => tt τ2 H2 λ b H3 =>
    if b = true then te τ2 H3 λ y H4 => ∃ m',m' < m /\ W (i + 1) m' (ys ++ [y]) τ2 H4 else ∃ m',m' < m /\ W (i + 1) m' ys τ2 H3)
section
variable {X : Cx} {pins : List (Addr × Obj)} {σ : St} {H : Hp} {s : Shared} {sc : Scope} {own : List Str} {fr : List Nat} {cl : List (Str × Addr)} {fp : List Addr} {it : Addr} {J : It} {tn : Nat -> Heap -> Prop} {g : TG} {tt : TT} {te : TE} {W : LcW} {Fin : List V -> Hp -> Prop}
  {elt tg iter : Expr} {ifs : List Expr} {pos : Pos} {E : Value -> Shared -> Prop}
theorem lc_core {RR : Value -> Addr -> Result -> Shared -> Prop} (hc : X.calm = true) (L : LcOk X sc own fr) (hcl1 : ∀ n c,cl.lookup n = some c -> X.env.cells.lookup n = some c) (hcl2 : ∀ n,(n,NameKind.free) ∈ sc.names -> ∃ c,cl.lookup n = some c)
    (hg : ∀ C s H ex pl,PG (blk X sc (lcN X own fr) cl C s H ex pl) tg g) (ht : ∀ C s H ex pl,PTs (blk X sc (lcN X own fr) cl C s H ex pl) ifs tt) (he : ∀ C s H ex pl,PE (blk X sc (lcN X own fr) cl C s H ex pl) elt te)
    (I : Inv X pins σ H s) (T : Turn X.prog X.w X.K tg J fp it tn) (st : tn 0 s.heap) (hf : ∀ b ∈ fp,FpOk X pins H b) (w0 : ∃ m,W 0 m [] (lcS own.length fr σ) H) (turn : lcStep J g tt te W Fin)
    (hRR : ∀ (D C : Addr) (s' : Shared) (H' : Hp) (ys : List V) (us : List Value) (n : Nat) (m : Str -> Option Value),Inv X pins σ H' s' -> s'.heap.get? D = some { cls := .type "list",data := .seq us.toArray n } -> Vals ys us -> ys.length <= sizeLine -> H' D = none -> H' C = none ->
      s.heap.objs.size <= D -> s.heap.objs.size <= C -> D ≠ C -> s'.heap.Ns C m -> Fin ys H' -> RR (.ref D) C (.ok .next) s') :
    wpAny (model X.prog X.w) X.A (newList []) (λ acc s₃ => wpAny (model X.prog X.w) X.A (newFunctionEnv sc X.env.globals cl [] X.env.qual none .none (some X.env)) (λ cenv s₄ =>
      codeAny (model X.prog X.w) X.A (.compStart (.ListComp elt [⟨tg,iter,ifs,0⟩] sc pos) 0 (.ref it) acc { cenv with scope := relabel sc X.env }) (RR acc cenv.locals) s₄) E s₃) E s := by
  refine wpAny_newObj_type (wpAny_newFunctionEnv L.cell (by intro y hy; simp at hy) (λ h₁ hns₁ hsb₁ => ?_) L.kind)
  dsimp only at hns₁ hsb₁ ⊢
  generalize hH2 : s.heap.push { cls := .type "list",dict := none,data := .seq ([] : List Value).toArray } = H2 at hns₁ hsb₁ ⊢
  have hCs : H2.objs.size = s.heap.objs.size + 1 := by rw [<- hH2,Heap.size_push]
  have hD0 : s.heap.objs.size ≠ H2.objs.size := by rw [hCs]; exact Nat.ne_of_lt (Nat.lt_succ_self _)
  have hCle : s.heap.objs.size <= H2.objs.size := by rw [hCs]; exact Nat.le_succ _
  have below : ∀ b,b < s.heap.objs.size -> b ≠ H2.objs.size /\ b ≠ s.heap.objs.size := λ b hb => ⟨by rw [hCs]; exact Nat.ne_of_lt (Nat.lt_succ_of_lt hb),Nat.ne_of_lt hb⟩
  have old : ∀ b o,s.heap.get? b = some o -> h₁.get? b = some o := λ b o e => hsb₁.extBut b o (below b (Heap.lt_size e)).1 (Heap.get?_push_of_some _ (hH2 ▸ Heap.get?_push_of_some _ e))
  have hacc : h₁.get? s.heap.objs.size = some { cls := .type "list",data := .seq ([] : List Value).toArray 0 } := hsb₁.extBut _ _ hD0 (Heap.get?_push_of_some _ (hH2 ▸ Heap.get?_push_size _ rfl))
  have hfb : ∀ b ∈ fp,b < s.heap.objs.size := λ b hb => by
    obtain ⟨o,e,_⟩ := T.obj 0 _ st b hb
    exact Heap.lt_size e
  have I1 : Inv (blk X sc (lcN X own fr) cl H2.objs.size s H fp pins) [] (lcS own.length fr σ) H { s with heap := h₁,toks := s.toks + ([] : List (Str × Value)).length } := blk_inv L I hf hfb hCle hcl1 hcl2 hns₁ old
  have st1 : tn 0 h₁ := T.keep 0 _ _ st λ b _ o e => old b o e
  generalize hY : blk X sc (lcN X own fr) cl H2.objs.size s H fp pins = Y at I1
  have hYp : Y.prog = X.prog := by rw [<- hY]; rfl
  have hYw : Y.w = X.w := by rw [<- hY]; rfl
  have hYK : Y.K = X.K := by rw [<- hY]; rfl
  have hYA : Y.A = X.A := by rw [<- hY]; rfl
  have hYc : Y.calm = true := by rw [<- hY]; exact hc
  have hYe : Y.env = compEnvC sc cl H2.objs.size X.env := by rw [<- hY]; rfl
  have hYx : Y.xe = λ _ _ => False := by rw [<- hY]; rfl
  have hYpn : Y.pn = X.pn ++ pins := by rw [<- hY]; rfl
  have hYs : Y.s₀ = s := by rw [<- hY]; rfl
  have hYH : Y.H₀ = H := by rw [<- hY]; rfl
  have hYex : Y.ex = fp := by rw [<- hY]; rfl
  have hYfs : Y.fs = frs X.stack := by rw [<- hY]; rfl
  have gY := hg H2.objs.size s H fp pins
  have tY := ht H2.objs.size s H fp pins
  have eY := he H2.objs.size s H fp pins
  rw [hY] at gY tY eY
  have D_pin : ∀ p ∈ Y.pn ++ ([] : List (Addr × Obj)),p.1 ≠ s.heap.objs.size := λ p hp => by
    rw [hYpn,List.append_nil] at hp
    exact (below _ (Heap.lt_size (I.pin p hp).1)).2
  have D_cell : ∀ x c,Y.env.cells.lookup x = some c -> c ≠ s.heap.objs.size := λ x c e => by
    rw [hYe] at e
    obtain ⟨v,z⟩ := I.cell x c (hcl1 _ _ e)
    exact (below _ z.lt).2
  have D_loc : s.heap.objs.size ≠ Y.env.locals := by rw [hYe]; exact hD0
  have D_fs : s.heap.objs.size ∉ Y.fs := by
    rw [hYfs]
    intro z
    rcases List.mem_cons.mp (I.stkSub _ z) with e | e
    · exact absurd I.lt (by rw [<- e]; exact Nat.lt_irrefl _)
    · exact I.nofs (Nat.le_refl _) e
  have fpY : ∀ {H' : Hp} (pl : List (Addr × Obj)),(∀ b ∈ fp,H' b = none) -> (∀ p ∈ pl,p.1 = s.heap.objs.size) -> ∀ b ∈ fp,FpOk Y pl H' b := λ {H'} pl hn hp b hb => by
    obtain ⟨_,f1,f2,f3,f4,f5⟩ := hf b hb
    refine ⟨hn b hb,by rw [hYe]; exact (below b (hfb b hb)).1,?_,.inl (by rw [hYex]; exact hb),λ x c e => ?_,λ p q => ?_⟩
    · rw [hYfs]
      intro z
      rcases List.mem_cons.mp (I.stkSub _ z) with e | e
      · exact f1 e
      · exact f2 e
    · rw [hYe] at e
      exact f4 x c (hcl1 _ _ e)
    · rcases List.mem_append.mp q with z | z
      · rw [hYpn] at z
        exact f5 p z
      · rw [hp p z]
        exact Ne.symm (below b (hfb b hb)).2
  have loop : ∀ s₃ : Shared,s₃ = { s with heap := h₁,toks := s.toks + ([] : List (Str × Value)).length } ->
      codeAny (model X.prog X.w) X.A (.compLoop (.ListComp elt [⟨tg,iter,ifs,0⟩] sc pos) 0 (.ref it) (.ref s.heap.objs.size) (compEnvC sc cl H2.objs.size X.env)) (RR (.ref s.heap.objs.size) H2.objs.size) s₃ := by
    rintro s₃ rfl
    obtain ⟨m0,w0⟩ := w0
    refine compLoop_own (λ n s' => ∃ i ys τ H' us k,Inv Y [] τ H' s' /\ tn i s'.heap /\ (∀ b ∈ fp,H' b = none) /\ H' s.heap.objs.size = none /\ s'.heap.get? s.heap.objs.size = some { cls := .type "list",data := .seq us.toArray k } /\ Vals ys us /\ ys.length <= sizeLine /\ W i n ys τ H') ?_ m0
      ⟨0,[],_,H,[],0,I1,st1,λ b hb => (hf b hb).1,I.hok.fresh (Nat.le_refl _),hacc,.nil,Nat.zero_le _,w0⟩
    rintro n s' ⟨i,ys,τ,H',us,k,I',st',hn',hD',ha',hv',hz',w'⟩
    have Ip : Inv Y [(s.heap.objs.size,{ cls := .type "list",data := .seq us.toArray k })] τ H' s' := I'.pins_of λ p hp => by
      have e : p = (s.heap.objs.size,{ cls := .type "list",data := .seq us.toArray k }) := by simpa using hp
      subst e
      exact ⟨ha',hD',D_loc,D_fs,λ v z => nomatch (show Data.seq _ _ = Data.cell v from z)⟩
    have onlyD : ∀ p ∈ [((s.heap.objs.size,{ cls := .type "list",data := .seq us.toArray k }) : Addr × Obj)],p.1 = s.heap.objs.size := λ p hp => by
      have e : p = (s.heap.objs.size,{ cls := .type "list",data := .seq us.toArray k }) := by simpa using hp
      subst e
      rfl
    rcases turn i n ys τ H' w' with ⟨stop,fin⟩ | ⟨go,hlen,step⟩
    · have q := T.done Y hYp hYw hYK hYc i _ s' τ H' (λ _ _ => False) Ip (fpY _ hn' onlyD) st' stop
      rw [hYA] at q
      refine thn q λ r s4 hq27 => ?_
      obtain ⟨hr,I4⟩ := hq27
      subst hr
      have un : Un (frs X.stack) fp H H' s.heap s4.heap := by
        have z := I4.base
        rw [hYfs,hYex,hYH,hYs] at z
        exact z
      have os4 : s4.os = s.os := by
        have z := I4.os
        rw [hYs] at z
        exact z
      have hok4 : HOk X.prog X.w H' s4.heap := by
        have z := I4.hok
        rw [hYp,hYw] at z
        exact z
      have hch : ∀ b ∈ fp,(b ∈ X.ex \/ X.s₀.heap.objs.size <= b) /\ b ≠ X.env.locals /\ (∀ x c,X.env.cells.lookup x = some c -> c ≠ b) /\ ∀ p ∈ X.pn ++ pins,p.1 ≠ b := λ b hb => by
        obtain ⟨_,f1,f2,f3,f4,f5⟩ := hf b hb
        exact ⟨f3,f1,f4,f5⟩
      have IX : Inv X pins σ H' s4 := I.call' os4 un hok4 I4.bare hch
      obtain ⟨mC,hmC,_⟩ := I4.loc
      have hCf := I4.free
      rw [hYe] at hmC hCf
      have pD := I4.pin (s.heap.objs.size,{ cls := .type "list",data := .seq us.toArray k }) (List.mem_append_right _ (List.mem_singleton.mpr rfl))
      exact hRR _ _ s4 H' ys us k mC IX pD.1 hv' hz' pD.2.1 hCf (Nat.le_refl _) hCle hD0 hmC fin
    · have q := T.item Y hYp hYw hYK hYc i _ s' τ H' (λ _ _ => False) Ip (fpY _ hn' onlyD) st' go
      rw [hYA] at q
      refine thn q λ r s4 hq28 => ?_
      obtain ⟨u,hr,h4⟩ := hq28
      subst hr
      refine thn h4 λ _ s5 hq29 => ?_
      obtain ⟨x,H5,I5,r5,y5,st5,fr5⟩ := hq29
      have I5' := I5.pinned (fpY _ fr5 onlyD) (T.obj _ _ st5)
      have g5 := gY _ s5 τ H5 x u _ I5' r5 (step x H5 y5)
      rw [hYp,hYw,hYA,hYe,hYx] at g5
      refine thn g5 λ _ s6 hq30 => ?_
      obtain ⟨σ6,H6,I6,q6⟩ := hq30
      have t6 := tY _ s6 σ6 H6 _ I6 q6
      rw [hYp,hYw,hYA,hYe,hYx] at t6
      refine thn t6 λ ok s7 hq31 => ?_
      obtain ⟨H7,I7,q7⟩ := hq31
      -- what the pins say behind the turn
      have keepD : ∀ {σ8 : St} {H8 : Hp} {s8 : Shared},Inv Y ([(s.heap.objs.size,{ cls := .type "list",data := .seq us.toArray k })] ++ pinsAt fp s5.heap) σ8 H8 s8 -> s8.heap.get? s.heap.objs.size = some { cls := .type "list",data := .seq us.toArray k } /\ H8 s.heap.objs.size = none :=
        λ {σ8 H8 s8} I8 => by
          have pD := I8.pin (s.heap.objs.size,{ cls := .type "list",data := .seq us.toArray k }) (List.mem_append_right _ (List.mem_append_left _ (List.mem_singleton.mpr rfl)))
          exact ⟨pD.1,pD.2.1⟩
      have keepI : ∀ {σ8 : St} {H8 : Hp} {s8 : Shared},Inv Y ([(s.heap.objs.size,{ cls := .type "list",data := .seq us.toArray k })] ++ pinsAt fp s5.heap) σ8 H8 s8 -> tn (i + 1) s8.heap /\ ∀ b ∈ fp,H8 b = none :=
        λ {σ8 H8 s8} I8 => by
          refine ⟨T.keep _ _ _ st5 λ b hb o e => (I8.pin (b,o) (List.mem_append_right _ (List.mem_append_right _ (mem_pinsAt hb e)))).1,λ b hb => ?_⟩
          obtain ⟨o,e,d⟩ := T.obj _ _ st5 b hb
          exact (I8.pin (b,o) (List.mem_append_right _ (List.mem_append_right _ (mem_pinsAt hb e)))).2.1
      cases ok with
      | false =>
        rw [if_neg Bool.false_ne_true] at q7 ⊢
        obtain ⟨m',hm',w7⟩ := q7
        obtain ⟨a7,b7⟩ := keepD I7
        obtain ⟨c7,d7⟩ := keepI I7
        exact ⟨m',hm',i + 1,ys,σ6,H7,us,k,I7.pins_of (λ p hp => (nomatch hp)),c7,d7,b7,a7,hv',hz',w7⟩
      | true =>
        rw [if_pos rfl] at q7 ⊢
        have e7 := eY _ s7 σ6 H7 _ I7 q7
        rw [hYp,hYw,hYA,hYe,hYx] at e7
        refine thn e7 λ v s8 hq32 => ?_
        obtain ⟨y,H8,I8,r8,m',hm',w8⟩ := hq32
        obtain ⟨a8,b8⟩ := keepD I8
        obtain ⟨c8,d8⟩ := keepI I8
        have hl := hv'.length
        refine call_meets F.slot_list_append ⟨_,a8,rfl⟩ F.entry_list_append (F.args_list_append_2 _ _) (PySem.list_append s.heap.objs.size us.toArray k v (by rw [List.size_toArray]; omega)) ⟨a8,?_⟩
        have qu := PySem.IsL.update a8 (λ xs => xs.push v)
        have I9 := (I8.pins_of (pins' := []) λ p hp => nomatch hp).turned (it := s.heap.objs.size) (t' := s8.toks) (h' := s8.heap.update s.heap.objs.size (Obj.mapSeq λ xs => xs.push v)) (λ b o hb e => (Heap.get?_update_other s8.heap _ (Ne.symm hb)).trans e) b8 D_loc (.inr (by rw [hYs]; exact Nat.le_refl _)) D_cell D_pin
        have ep : us.toArray.push v = (us ++ [v]).toArray := by simp
        rw [ep] at qu
        refine ⟨m',hm',i + 1,ys ++ [y],σ6,H8,us ++ [v],(if (us ++ [v]).toArray.size == us.toArray.size then k else k + 1),I9,T.keep _ _ _ c8 λ b hb o e => (Heap.get?_update_other s8.heap _ (Ne.symm (below b (hfb b hb)).2)).trans e,d8,b8,?_,hv'.append (.cons r8 .nil),?_,w8⟩
        · exact qu
        · rw [List.length_append,List.length_singleton]; omega
  exact codeAny_compStart_list (loop _ rfl) (T.self _ 0 _ _ _ st1 (loop _ rfl))
def tLC (wi : TI) (g : TG) (tt : TT) (te : TE) (k : Nat) (fr : List Nat) : TE := λ σ H Q => wi σ H λ J H1 => ∃ W : LcW,(∃ m,W 0 m [] (lcS k fr σ) H1) /\ lcStep J g tt te W λ ys H2 => ∀ p,H2 p = none -> Q (.ref p) (upd H2 p (.lst ys))
theorem lc_closure (L : LcOk X sc own fr) (ok : X.Ok) : ∃ cl,closureFor sc X.env = pure cl /\ (∀ n c,cl.lookup n = some c -> X.env.cells.lookup n = some c) /\ (∀ n,(n,NameKind.free) ∈ sc.names -> ∃ c,cl.lookup n = some c) :=
  closure_some λ x hx hf => ok.has x.1 (L.free x hx hf)
theorem pe_lc {wi : TI} (hc : X.calm = true) (L : LcOk X sc own fr) (hi : PI X tg iter wi)
    (hg : ∀ cl C s H ex pl,PG (blk X sc (lcN X own fr) cl C s H ex pl) tg g) (ht : ∀ cl C s H ex pl,PTs (blk X sc (lcN X own fr) cl C s H ex pl) ifs tt) (he : ∀ cl C s H ex pl,PE (blk X sc (lcN X own fr) cl C s H ex pl) elt te)
    (hs : ∀ x,foldedSetIterable iter X.env x = pure x := by intro _; rfl) : PE X (.ListComp elt [⟨tg,iter,ifs,0⟩] sc pos) (tLC wi g tt te own.length fr) := by
  intro pins s σ H Q I h
  obtain ⟨cl,hcl,c1,c2⟩ := lc_closure L I.ok
  rw [eval_ListComp]
  refine wpAny_comprehension_free (use := none) (g := ⟨tg,iter,ifs,0⟩) (gs := []) rfl hs hcl L.kind L.names ?_
  refine thn (hi pins s σ H _ I h) λ v s1 h1 => thn h1 λ itv s2 h2 => ?_
  obtain ⟨it,fp,tn,J,H2,e,I2,T,st2,f2,W,w0,turn⟩ := h2
  subst e
  refine lc_core (cl := cl) hc L c1 c2 (hg cl) (ht cl) (he cl) I2 T st2 f2 w0 turn λ D C s' H' ys us n m I' a' hv hz hD hC dD dC hDC hns fin => ?_
  refine ⟨m,hns,λ h' sb => ?_⟩
  have far : ∀ b,s2.heap.objs.size <= b -> (X.s₀.heap.objs.size <= b) /\ b ≠ X.env.locals /\ (∀ x c,X.env.cells.lookup x = some c -> c ≠ b) /\ ∀ p ∈ X.pn ++ pins,p.1 ≠ b := λ b hb => by
    obtain ⟨_,f1,_,f3,f4,f5⟩ := I2.fpOk (H' := λ _ => none) hb rfl
    refine ⟨Nat.le_trans I2.sz hb,f1,f4,f5⟩
  obtain ⟨z1,z2,z3,z4⟩ := far C dC
  obtain ⟨y1,y2,y3,y4⟩ := far D dD
  have I3 : Inv X pins σ H' { s' with heap := h' } := I'.turned (t' := s'.toks) (λ b o hb e => sb.extBut b o hb e) hC z2 (.inr z1) z3 z4
  exact ⟨.ref D,_,I3.track (sb.extBut _ _ hDC a') hD hv hz y1 y2 y3 y4,rfl,fin D hD⟩
theorem ps_setLC {wi : TI} {i : Nat} {x : Str} {pos' spos : Pos} (hN : X.N.Nodup) (hi' : X.N[i]? = some x) (hx : Loc X.env.scope x) (hc : X.calm = true) (L : LcOk X sc own fr) (hi : PI X tg iter wi)
    (hg : ∀ cl C s H ex pl,PG (blk X sc (lcN X own fr) cl C s H ex pl) tg g) (ht : ∀ cl C s H ex pl,PTs (blk X sc (lcN X own fr) cl C s H ex pl) ifs tt) (he : ∀ cl C s H ex pl,PE (blk X sc (lcN X own fr) cl C s H ex pl) elt te)
    (hsw : swapsWith (.ListComp elt [⟨tg,iter,ifs,0⟩] sc pos) (some (.Name x pos')) spos.line X.env = pure true := by rfl)
    (hs : ∀ x,foldedSetIterable iter X.env x = pure x := by intro _; rfl) (hf : X.fn x = true \/ X.env.scope.names.lookup x = some .local := by first | exact .inl rfl | exact .inr rfl | assumption) :
    PS X (.Assign [.Name x pos'] (.ListComp elt [⟨tg,iter,ifs,0⟩] sc pos) spos) (tAsg (tLC wi g tt te own.length fr) (gName i)) := by
  intro pins s σ H D' I h
  obtain ⟨cl,hcl,c1,c2⟩ := lc_closure L I.ok
  rw [exec_Assign_Name_used _ _ _ _ hsw]
  refine wpAny_bind (wpAny_standAt (wpAny_bind ?_))
  show wpAny _ _ (evalThenUse (.ListComp elt [⟨tg,iter,ifs,0⟩] sc pos) X.env (assign (.Name x pos') X.env)) _ _ _
  unfold evalThenUse
  refine wpAny_bind ?_
  refine wpAny_comprehension_free (use := some (assign (.Name x pos') X.env)) (g := ⟨tg,iter,ifs,0⟩) (gs := []) rfl hs hcl L.kind L.names ?_
  refine thn (hi pins s σ H _ I h) λ v s1 h1 => thn h1 λ itv s2 h2 => ?_
  obtain ⟨it,fp,tn,J,H2,e,I2,T,st2,f2,W,w0,turn⟩ := h2
  subst e
  refine lc_core (cl := cl) hc L c1 c2 (hg cl) (ht cl) (he cl) I2 T st2 f2 w0 turn λ D C s' H' ys us n m I' a' hv hz hD hC dD dC hDC hns fin => ?_
  have far : ∀ b,s2.heap.objs.size <= b -> (X.s₀.heap.objs.size <= b) /\ b ≠ X.env.locals /\ (∀ x c,X.env.cells.lookup x = some c -> c ≠ b) /\ (b ∉ X.fs) /\ ∀ p ∈ X.pn ++ pins,p.1 ≠ b := λ b hb => by
    obtain ⟨_,f1,f2,f3,f4,f5⟩ := I2.fpOk (H' := λ _ => none) hb rfl
    refine ⟨Nat.le_trans I2.sz hb,f1,f4,f2,f5⟩
  obtain ⟨z1,z2,z3,z0,z4⟩ := far C dC
  obtain ⟨y1,y2,y3,_,y4⟩ := far D dD
  have I3 := I'.track a' hD hv hz y1 y2 y3 y4
  obtain ⟨oC,hoC,nsC⟩ : ∃ o,s'.heap.get? C = some o /\ ∃ es ep,o.data = .dict es ep := by
    obtain ⟨o,es,ep,e1,e2,_⟩ := hns
    exact ⟨o,e1,es,ep,e2⟩
  have hCt : (upd H' D (.lst ys)) C = none := by rw [upd_ne (Ne.symm hDC)]; exact hC
  have I4 : Inv X (pins ++ [(C,oC)]) σ (upd H' D (.lst ys)) s' := I3.pins_of λ p hp => by
    rcases List.mem_append.mp hp with z | z
    · exact I3.pin p (List.mem_append_right _ z)
    · have e : p = (C,oC) := by simpa using z
      subst e
      obtain ⟨es,ep,hd⟩ := nsC
      exact ⟨hoC,hCt,z2,z0,λ v z => by have z' : oC.data = .cell v := z; rw [hd] at z'; cases z'⟩
  refine thn (pg_name (pos := pos') hN hi' hx hf _ s' σ _ (.ref D) (.ref D) _ I4 rfl (fin D hD)) λ _ s5 hq33 => ?_
  obtain ⟨σ5,H5,I5,q5⟩ := hq33
  have pC := I5.pin (C,oC) (List.mem_append_right _ (List.mem_append_right _ (List.mem_singleton.mpr rfl)))
  obtain ⟨o,es,ep,e1,e2,e3⟩ := hns
  rw [hoC] at e1
  cases e1
  refine ⟨m,⟨oC,es,ep,pC.1,e2,e3⟩,λ h' sb => ?_⟩
  have I6 : Inv X pins σ5 H5 { s5 with heap := h' } := (I5.unpinned).turned (t' := s5.toks) (λ b o hb e => sb.extBut b o hb e) pC.2.1 z2 (.inr z1) z3 z4
  exact wpAny_pure (wpAny_pure ⟨σ5,H5,I6,q5⟩)
end
end L2
set_option Elab.async false
set_option linter.all false
set_option maxRecDepth 100000
set_option maxHeartbeats 4000000
namespace D
open PySem PySem.Spec PyProof.Rows L2
abbrev St := L2.St

structure Kp (H H' : Hp) : Prop where
  tup : ∀ b xs,H b = some (.tup xs) -> H' b = some (.tup xs)
  frz : ∀ b o u,H b = some (.frz o u) -> H' b = some (.frz o u)
theorem Kp.refl (H : Hp) : Kp H H := ⟨λ _ _ e => e,λ _ _ _ e => e⟩
theorem Kp.trans {H H1 H2 : Hp} (a : Kp H H1) (b : Kp H1 H2) : Kp H H2 := ⟨λ c xs e => b.tup c xs (a.tup c xs e),λ c o u e => b.frz c o u (a.frz c o u e)⟩
theorem Kp.new {H : Hp} {p : Addr} {o : HO} (h : H p = none) : Kp H (upd H p o) := ⟨λ b xs e => by rw [upd_ne (ne_of_none e h)]; exact e,λ b ob u e => by rw [upd_ne (ne_of_none e h)]; exact e⟩
theorem Kp.set {H : Hp} {p : Addr} {o u : HO} (h : H p = some u) (ht : ∀ xs,u ≠ .tup xs) (hf : ∀ ob v,u ≠ .frz ob v) : Kp H (upd H p o) :=
  ⟨λ b xs e => by rw [upd_ne (ne_of e h λ z => ht _ z.symm)]; exact e,λ b ob v e => by rw [upd_ne (ne_of e h λ z => hf _ _ z.symm)]; exact e⟩
def SqF (K : PySem.W.Frag) (H : Hp) (a : Addr) (xs : List V) : Prop :=
  (∃ o,H a = some (.frz o (.lst xs))) \/ ∃ (o : Obj) (its : Array Value) (n : Nat),K.lookup a = some o /\ o.cls = .type "list" /\ o.dict = none /\ o.data = .seq its n /\ its.size <= sizeLine /\ Vals xs its.toList
theorem SqF.sq {K : PySem.W.Frag} {H : Hp} {a : Addr} {xs : List V} (h : SqF K H a xs) : SqL K H a xs := by
  rcases h with h | h
  · exact .inl (.inr h)
  · exact .inr h
theorem SqF.keep {K : PySem.W.Frag} {H H' : Hp} {a : Addr} {xs : List V} (k : Kp H H') (h : SqF K H a xs) : SqF K H' a xs := by
  rcases h with ⟨o,h⟩ | h
  · exact .inl ⟨o,k.frz _ _ _ h⟩
  · exact .inr h
theorem SqT.keep {K : PySem.W.Frag} {H H' : Hp} {a : Addr} {xs : List V} (k : Kp H H') (h : SqT K H a xs) : SqT K H' a xs := by
  rcases h with (h | ⟨o,h⟩) | h
  · exact .inl (.inl (k.tup _ _ h))
  · exact .inl (.inr ⟨o,k.frz _ _ _ h⟩)
  · exact .inr h
def keyD : Key -> PyData
  | .inl i => .int i
  | .inr x => .str x

mutual
def RepD (K : PySem.W.Frag) (H : Hp) : PyData -> V -> Prop
  | .none,v => v = .non
  | .bool b,v => v = .bl b
  | .int i,v => v = .int i
  | .str x,v => v = .str x
  | .list ds,v => ∃ a vs,v = .ref a /\ SqF K H a vs /\ RepA K H ds vs
  | .tuple ds,v => ∃ a vs,v = .ref a /\ SqT K H a vs /\ RepA K H ds vs
  | .dict kvs,v => ∃ a o l,v = .ref a /\ H a = some (.frz o (.dK l)) /\ RepK K H kvs l
def RepA (K : PySem.W.Frag) (H : Hp) : List PyData -> List V -> Prop
  | [],vs => vs = []
  | d :: ds,vs => ∃ v r,vs = v :: r /\ RepD K H d v /\ RepA K H ds r
def RepK (K : PySem.W.Frag) (H : Hp) : List (PyData × PyData) -> List (Key × V) -> Prop
  | [],l => l = []
  | (k,d) :: ds,l => ∃ key v r,l = (key,v) :: r /\ k = keyD key /\ RepD K H d v /\ RepK K H ds r
end
mutual
theorem RepD.keep {K : PySem.W.Frag} {H H' : Hp} (k : Kp H H') : ∀ {d : PyData} {v : V},RepD K H d v -> RepD K H' d v
  | .none,v,h => by simp only [RepD] at h ⊢; exact h
  | .bool b,v,h => by simp only [RepD] at h ⊢; exact h
  | .int i,v,h => by simp only [RepD] at h ⊢; exact h
  | .str x,v,h => by simp only [RepD] at h ⊢; exact h
  | .list ds,v,h => by
    simp only [RepD] at h ⊢
    obtain ⟨a,vs,e,s,r⟩ := h
    exact ⟨a,vs,e,s.keep k,RepA.keep k r⟩
  | .tuple ds,v,h => by
    simp only [RepD] at h ⊢
    obtain ⟨a,vs,e,s,r⟩ := h
    exact ⟨a,vs,e,SqT.keep k s,RepA.keep k r⟩
  | .dict kvs,v,h => by
    simp only [RepD] at h ⊢
    obtain ⟨a,o,l,e,s,r⟩ := h
    exact ⟨a,o,l,e,k.frz _ _ _ s,RepK.keep k r⟩
theorem RepA.keep {K : PySem.W.Frag} {H H' : Hp} (k : Kp H H') : ∀ {ds : List PyData} {vs : List V},RepA K H ds vs -> RepA K H' ds vs
  | [],vs,h => by simp only [RepA] at h ⊢; exact h
  | d :: ds,vs,h => by
    simp only [RepA] at h ⊢
    obtain ⟨v,r,e,h1,h2⟩ := h
    exact ⟨v,r,e,RepD.keep k h1,RepA.keep k h2⟩
theorem RepK.keep {K : PySem.W.Frag} {H H' : Hp} (k : Kp H H') : ∀ {ds : List (PyData × PyData)} {l : List (Key × V)},RepK K H ds l -> RepK K H' ds l
  | [],l,h => by simp only [RepK] at h ⊢; exact h
  | (key,d) :: ds,l,h => by
    simp only [RepK] at h ⊢
    obtain ⟨k',v,r,e,ek,h1,h2⟩ := h
    exact ⟨k',v,r,e,ek,RepD.keep k h1,RepK.keep k h2⟩
end
theorem RepA.length {K : PySem.W.Frag} {H : Hp} : ∀ {ds : List PyData} {vs : List V},RepA K H ds vs -> vs.length = ds.length
  | [],vs,h => by simp only [RepA] at h; rw [h]; rfl
  | d :: ds,vs,h => by
    simp only [RepA] at h
    obtain ⟨v,r,e,_,h2⟩ := h
    rw [e,List.length_cons,List.length_cons,RepA.length h2]
theorem RepA.get {K : PySem.W.Frag} {H : Hp} : ∀ {ds : List PyData} {vs : List V} {i : Nat} {d : PyData},RepA K H ds vs -> ds[i]? = some d -> ∃ v,vs[i]? = some v /\ RepD K H d v
  | [],_,_,_,_,e => by simp at e
  | d :: ds,vs,0,d',h,e => by
    simp only [RepA] at h
    obtain ⟨v,r,ev,h1,_⟩ := h
    simp at e
    subst e
    exact ⟨v,by rw [ev]; rfl,h1⟩
  | d :: ds,vs,i + 1,d',h,e => by
    simp only [RepA] at h
    obtain ⟨v,r,ev,_,h2⟩ := h
    obtain ⟨v',e1,e2⟩ := RepA.get (i := i) h2 (by simpa using e)
    exact ⟨v',by rw [ev]; simpa using e1,e2⟩
theorem RepA.get' {K : PySem.W.Frag} {H : Hp} {ds : List PyData} {vs : List V} {i : Nat} {v : V} (h : RepA K H ds vs) (e : vs[i]? = some v) : ∃ d,ds[i]? = some d /\ RepD K H d v := by
  have hi : i < ds.length := by
    have := (List.getElem?_eq_some_iff.mp e).1
    rw [h.length] at this
    exact this
  obtain ⟨v',e1,r⟩ := h.get (i := i) (d := ds[i]) (by simp [hi])
  rw [e] at e1
  cases e1
  exact ⟨ds[i],by simp [hi],r⟩
theorem RepA.ints {K : PySem.W.Frag} {H : Hp} : ∀ (ns : List Int),RepA K H (ns.map PyData.int) (ns.map V.int)
  | [] => by simp [RepA]
  | n :: ns => by
    simp only [List.map_cons,RepA]
    exact ⟨_,_,rfl,by simp [RepD],RepA.ints ns⟩
theorem RepA.append {K : PySem.W.Frag} {H : Hp} : ∀ {ds es : List PyData} {vs us : List V},RepA K H ds vs -> RepA K H es us -> RepA K H (ds ++ es) (vs ++ us)
  | [],es,vs,us,h,q => by simp only [RepA] at h; subst h; exact q
  | d :: ds,es,vs,us,h,q => by
    simp only [RepA] at h
    obtain ⟨v,r,e,h1,h2⟩ := h
    subst e
    simp only [List.cons_append,RepA]
    exact ⟨v,r ++ us,rfl,h1,RepA.append h2 q⟩
theorem RepA.drop {K : PySem.W.Frag} {H : Hp} : ∀ {ds : List PyData} {vs : List V} (n : Nat),RepA K H ds vs -> RepA K H (ds.drop n) (vs.drop n)
  | ds,vs,0,h => by simpa using h
  | [],vs,n + 1,h => by simp only [RepA] at h; subst h; simp [RepA]
  | d :: ds,vs,n + 1,h => by
    simp only [RepA] at h
    obtain ⟨v,r,e,_,h2⟩ := h
    subst e
    simpa using RepA.drop n h2
theorem RepA.take {K : PySem.W.Frag} {H : Hp} : ∀ {ds : List PyData} {vs : List V} (n : Nat),RepA K H ds vs -> RepA K H (ds.take n) (vs.take n)
  | ds,vs,0,h => by simp [RepA]
  | [],vs,n + 1,h => by simp only [RepA] at h; subst h; simp [RepA]
  | d :: ds,vs,n + 1,h => by
    simp only [RepA] at h
    obtain ⟨v,r,e,h1,h2⟩ := h
    subst e
    simp only [List.take_succ_cons,RepA]
    exact ⟨v,_,rfl,h1,RepA.take n h2⟩

inductive W where
  | d (x : PyData)
  | m (a : Addr)
  | t (n : String)
inductive MO where
  | lst (ws : List W)
  | dic (kvs : List (Key × W))
  | dct (kvs : List (List Key × W))
  | fdic (kvs : List (Key × W))
  | ins (C : Addr) (fs : List (Str × W))
  | tup (ws : List W)
  | flst (ws : List W)
  | exc (C : Addr) (fs : List (Str × W))
abbrev MH := Addr -> Option MO
def updM (M : MH) (a : Addr) (o : MO) : MH := λ b => if b = a then some o else M b
theorem updM_same {M : MH} {a : Addr} {o : MO} : updM M a o a = some o := if_pos rfl
theorem updM_ne {M : MH} {a b : Addr} {o : MO} (h : b ≠ a) : updM M a o b = M b := if_neg h
theorem updM_updM {M : MH} {a : Addr} {o u : MO} : updM (updM M a o) a u = updM M a u := by funext b; unfold updM; split <;> rfl
abbrev DS := List (Option W)
def RepW (K : PySem.W.Frag) (H : Hp) : W -> V -> Prop
  | .d x,v => RepD K H x v
  | .m a,v => v = .ref a
  | .t n,v => v = .ty n
theorem RepW.keep {K : PySem.W.Frag} {H H' : Hp} (k : Kp H H') : ∀ {w : W} {v : V},RepW K H w v -> RepW K H' w v
  | .d _,_,h => RepD.keep k h
  | .m _,_,h => h
  | .t _,_,h => h
def RepWs (K : PySem.W.Frag) (H : Hp) : List W -> List V -> Prop := Paired (RepW K H)
theorem RepWs.keep {K : PySem.W.Frag} {H H' : Hp} (k : Kp H H') {ws : List W} {vs : List V} (h : RepWs K H ws vs) : RepWs K H' ws vs := Paired.mapP h λ _ _ r => r.keep k
theorem RepWs.length {K : PySem.W.Frag} {H : Hp} {ws : List W} {vs : List V} (h : RepWs K H ws vs) : ws.length = vs.length := Paired.length h
theorem RepWs.get {K : PySem.W.Frag} {H : Hp} : ∀ {ws : List W} {vs : List V} {i : Nat} {w : W},RepWs K H ws vs -> ws[i]? = some w -> ∃ v,vs[i]? = some v /\ RepW K H w v
  | _,_,_,_,.nil,e => by simp at e
  | _,_,0,_,.cons r _,e => by simp at e; subst e; exact ⟨_,rfl,r⟩
  | _,_,i + 1,_,.cons _ t,e => by
    obtain ⟨u,h1,h2⟩ := RepWs.get (i := i) t (by simpa using e)
    exact ⟨u,by simpa using h1,h2⟩
theorem RepWs.set {K : PySem.W.Frag} {H : Hp} {w : W} {v : V} (r : RepW K H w v) : ∀ {ws : List W} {vs : List V} (i : Nat),RepWs K H ws vs -> RepWs K H (ws.set i w) (vs.set i v)
  | _,_,_,.nil => .nil
  | _,_,0,.cons _ t => .cons r t
  | _,_,i + 1,.cons q t => .cons q (RepWs.set r i t)
theorem RepWs.append {K : PySem.W.Frag} {H : Hp} : ∀ {ws ws' : List W} {vs vs' : List V},RepWs K H ws vs -> RepWs K H ws' vs' -> RepWs K H (ws ++ ws') (vs ++ vs')
  | _,_,_,_,.nil,s => s
  | _,_,_,_,.cons r t,s => .cons r (RepWs.append t s)
theorem RepWs.data {K : PySem.W.Frag} {H : Hp} : ∀ {ds : List PyData} {vs : List V},RepWs K H (ds.map W.d) vs -> RepA K H ds vs
  | [],_,h => by cases h; simp [RepA]
  | d :: ds,_,h => by
    cases h with
    | cons r t => simp only [RepA]; exact ⟨_,_,rfl,r,RepWs.data t⟩
theorem RepA.ws {K : PySem.W.Frag} {H : Hp} : ∀ {ds : List PyData} {vs : List V},RepA K H ds vs -> RepWs K H (ds.map W.d) vs
  | [],vs,h => by simp only [RepA] at h; subst h; exact .nil
  | d :: ds,vs,h => by
    simp only [RepA] at h
    obtain ⟨v,r,e,h1,h2⟩ := h
    subst e
    exact .cons h1 (RepA.ws h2)
def RepM (K : PySem.W.Frag) (H : Hp) (a : Addr) : MO -> Prop
  | .lst ws => ∃ vs,H a = some (.lst vs) /\ RepWs K H ws vs
  | .dic kvs => ∃ l,H a = some (.dK l) /\ Paired (λ (p : Key × W) (q : Key × V) => p.1 = q.1 /\ RepW K H p.2 q.2) kvs l
  | .fdic kvs => ∃ o l,H a = some (.frz o (.frz o (.dK l))) /\ Paired (λ (p : Key × W) (q : Key × V) => p.1 = q.1 /\ RepW K H p.2 q.2) kvs l
  | .dct kvs => ∃ l,H a = some (.dT l) /\ Paired (λ (p : List Key × W) (q : List Key × V) => p.1 = q.1 /\ RepW K H p.2 q.2) kvs l
  | .ins C fs => ∃ dx l,H a = some (.ins C dx l) /\ Paired (λ (p : Str × W) (q : Str × V) => p.1 = q.1 /\ RepW K H p.2 q.2) fs l
  | .tup ws => ∃ vs,H a = some (.tup vs) /\ RepWs K H ws vs
  | .flst ws => ∃ o vs,H a = some (.frz o (.frz o (.lst vs))) /\ RepWs K H ws vs
  | .exc C fs => ∃ φ dct,H a = some (.ext φ) /\ (∀ h,φ h -> ∃ vs,h.get? a = some { cls := .ref C,dict := dct,data := .fields vs }) /\
      ((dct = none /\ fs = []) \/ ∃ dx o l,dct = some dx /\ H dx = some (.frz o (.xd l)) /\ Paired (λ (p : Str × W) (q : Str × V) => p.1 = q.1 /\ RepW K H p.2 q.2) fs l)
def MAbs (K : PySem.W.Frag) (H : Hp) (M : MH) : Prop := ∀ a o,M a = some o -> RepM K H a o
theorem RepM.is {K : PySem.W.Frag} {H : Hp} {a : Addr} {o : MO} (h : RepM K H a o) : ∃ u,H a = some u := by
  cases o with
  | lst ws => obtain ⟨vs,e,_⟩ := h; exact ⟨_,e⟩
  | dic kvs => obtain ⟨l,e,_⟩ := h; exact ⟨_,e⟩
  | dct kvs => obtain ⟨l,e,_⟩ := h; exact ⟨_,e⟩
  | fdic kvs => obtain ⟨o,l,e,_⟩ := h; exact ⟨_,e⟩
  | ins C fs => obtain ⟨dx,l,e,_⟩ := h; exact ⟨_,e⟩
  | tup ws => obtain ⟨vs,e,_⟩ := h; exact ⟨_,e⟩
  | flst ws => obtain ⟨o,vs,e,_⟩ := h; exact ⟨_,e⟩
  | exc C fs => obtain ⟨φ,dct,e,_⟩ := h; exact ⟨_,e⟩
theorem MAbs.free {K : PySem.W.Frag} {H : Hp} {M : MH} (h : MAbs K H M) {p : Addr} (e : H p = none) : M p = none := by
  cases q : M p with
  | none => rfl
  | some o =>
    obtain ⟨u,z⟩ := (h p o q).is
    rw [e] at z
    cases z
theorem RepM.keep {K : PySem.W.Frag} {H H' : Hp} {a : Addr} {o : MO} (k : Kp H H') (s : ∀ u,H a = some u -> H' a = some u) (h : RepM K H a o) : RepM K H' a o := by
  cases o with
  | lst ws => obtain ⟨vs,e,r⟩ := h; exact ⟨vs,s _ e,r.keep k⟩
  | dic kvs => obtain ⟨l,e,r⟩ := h; exact ⟨l,s _ e,Paired.mapP r λ p q z => ⟨z.1,z.2.keep k⟩⟩
  | dct kvs => obtain ⟨l,e,r⟩ := h; exact ⟨l,s _ e,Paired.mapP r λ p q z => ⟨z.1,z.2.keep k⟩⟩
  | fdic kvs => obtain ⟨o,l,e,r⟩ := h; exact ⟨o,l,s _ e,Paired.mapP r λ p q z => ⟨z.1,z.2.keep k⟩⟩
  | ins C fs => obtain ⟨dx,l,e,r⟩ := h; exact ⟨dx,l,s _ e,Paired.mapP r λ p q z => ⟨z.1,z.2.keep k⟩⟩
  | tup ws => obtain ⟨vs,e,r⟩ := h; exact ⟨vs,s _ e,r.keep k⟩
  | flst ws => obtain ⟨o,vs,e,r⟩ := h; exact ⟨o,vs,s _ e,r.keep k⟩
  | exc C fs =>
    obtain ⟨φ,dct,e,p,r⟩ := h
    refine ⟨φ,dct,s _ e,p,?_⟩
    rcases r with r | ⟨dx,o,l,e1,e2,r⟩
    · exact .inl r
    · exact .inr ⟨dx,o,l,e1,k.frz _ _ _ e2,Paired.mapP r λ p q z => ⟨z.1,z.2.keep k⟩⟩
theorem MAbs.new {K : PySem.W.Frag} {H : Hp} {M : MH} {p : Addr} {o : HO} (h : MAbs K H M) (e : H p = none) : MAbs K (upd H p o) M := λ a mo q =>
  (h a mo q).keep (Kp.new e) λ u z => by rw [upd_ne (ne_of_none z e)]; exact z
theorem MAbs.put {K : PySem.W.Frag} {H : Hp} {M : MH} {p : Addr} {o : HO} {mo : MO} (h : MAbs K H M) (k : Kp H (upd H p o)) (r : RepM K (upd H p o) p mo) : MAbs K (upd H p o) (updM M p mo) := λ a mo' q => by
  by_cases e : a = p
  · subst e
    rw [updM_same] at q
    cases q
    exact r
  · rw [updM_ne e] at q
    exact (h a mo' q).keep k λ u z => by rw [upd_ne e]; exact z
structure Abs (K : PySem.W.Frag) (H : Hp) (σ : St) (τ : DS) (M : MH) : Prop where
  len : σ.length = τ.length
  val : ∀ (i : Nat) w,τ[i]? = some (some w) -> ∃ v,σ[i]? = some (some v) /\ RepW K H w v
  mem : MAbs K H M
theorem Abs.go {K : PySem.W.Frag} {H H' : Hp} {σ : St} {τ : DS} {M M' : MH} (h : Abs K H σ τ M) (k : Kp H H') (m : MAbs K H' M') : Abs K H' σ τ M' :=
  ⟨h.len,λ i w e => let ⟨v,q,r⟩ := h.val i w e; ⟨v,q,r.keep k⟩,m⟩
theorem Abs.set {K : PySem.W.Frag} {H : Hp} {σ : St} {τ : DS} {M : MH} {w : W} {v : V} (h : Abs K H σ τ M) (i : Nat) (r : RepW K H w v) : Abs K H (σ.set i (some v)) (τ.set i (some w)) M := by
  refine ⟨by rw [List.length_set,List.length_set]; exact h.len,λ j w' e => ?_,h.mem⟩
  by_cases hj : i = j
  · subst hj
    have hl : i < τ.length := by
      have := (List.getElem?_eq_some_iff.mp e).1
      rwa [List.length_set] at this
    rw [List.getElem?_set_self hl] at e
    cases e
    exact ⟨v,List.getElem?_set_self (by rw [h.len]; exact hl),r⟩
  · rw [List.getElem?_set_ne hj] at e
    obtain ⟨v',q,r'⟩ := h.val j w' e
    exact ⟨v',by rw [List.getElem?_set_ne hj]; exact q,r'⟩

abbrev QD := W -> MH -> Prop
abbrev TD := DS -> MH -> QD -> Prop
abbrev TTd := DS -> MH -> (Bool -> MH -> Prop) -> Prop
abbrev TAd := DS -> MH -> (List W -> MH -> Prop) -> Prop
structure Ed where
  nx : DS -> MH -> Prop
  rt : QD
  bk : DS -> MH -> Prop := λ _ _ => False
  ct : DS -> MH -> Prop := λ _ _ => False
abbrev TSd := Ed -> DS -> MH -> Prop
def up (K : PySem.W.Frag) (t : TD) : TE := λ σ H Q => ∃ τ M Qd,Abs K H σ τ M /\ t τ M Qd /\ ∀ v H' w M',Kp H H' -> RepW K H' w v -> MAbs K H' M' -> Qd w M' -> Q v H'
def upT (K : PySem.W.Frag) (t : TTd) : TT := λ σ H Q => ∃ τ M Qd,Abs K H σ τ M /\ t τ M Qd /\ ∀ b H' M',Kp H H' -> MAbs K H' M' -> Qd b M' -> Q b H'
def upA (K : PySem.W.Frag) (t : TAd) : TA := λ σ H Q => ∃ τ M Qd,Abs K H σ τ M /\ t τ M Qd /\ ∀ vs H' ws M',Kp H H' -> RepWs K H' ws vs -> MAbs K H' M' -> Qd ws M' -> Q vs H'
def upS (K : PySem.W.Frag) (t : TSd) : TS := λ D σ H => ∃ τ M Dd,Abs K H σ τ M /\ t Dd τ M /\
  (∀ σ' H' τ' M',Kp H H' -> Abs K H' σ' τ' M' -> Dd.nx τ' M' -> D.nx σ' H') /\ (∀ v H' w M',Kp H H' -> RepW K H' w v -> MAbs K H' M' -> Dd.rt w M' -> D.rt v H') /\
  (∀ σ' H' τ' M',Kp H H' -> Abs K H' σ' τ' M' -> Dd.bk τ' M' -> D.bk σ' H') /\ (∀ σ' H' τ' M',Kp H H' -> Abs K H' σ' τ' M' -> Dd.ct τ' M' -> D.ct σ' H')
section
variable {X : Cx}
abbrev PD (X : Cx) (e : Expr) (t : TD) : Prop := PE X e (up X.K t)
abbrev PTd (X : Cx) (e : Expr) (t : TTd) : Prop := PT X e (upT X.K t)
abbrev PAd (X : Cx) (es : List Expr) (t : TAd) : Prop := PA X es (upA X.K t)
abbrev PSd (X : Cx) (st : Stmt) (t : TSd) : Prop := PS X st (upS X.K t)
abbrev PSsd (X : Cx) (st : List Stmt) (t : TSd) : Prop := PSs X st (upS X.K t)
theorem pe_w {e : Expr} {t t' : TE} (h : PE X e t) (k : ∀ σ H Q,t' σ H Q -> t σ H Q) : PE X e t' := λ pins s σ H Q I q => h pins s σ H Q I (k σ H Q q)
theorem pt_w {e : Expr} {t t' : TT} (h : PT X e t) (k : ∀ σ H Q,t' σ H Q -> t σ H Q) : PT X e t' := λ pins s σ H Q I q => h pins s σ H Q I (k σ H Q q)
theorem pa_w {es : List Expr} {t t' : TA} (h : PA X es t) (k : ∀ σ H Q,t' σ H Q -> t σ H Q) : PA X es t' := λ pos pins s σ H Q I q => h pos pins s σ H Q I (k σ H Q q)
theorem ps_w {st : Stmt} {t t' : TS} (h : PS X st t) (k : ∀ D σ H,t' D σ H -> t D σ H) : PS X st t' := λ pins s σ H D I q => h pins s σ H D I (k D σ H q)
theorem pss_w {st : List Stmt} {t t' : TS} (h : PSs X st t) (k : ∀ D σ H,t' D σ H -> t D σ H) : PSs X st t' := λ pins s σ H D I q => h pins s σ H D I (k D σ H q)
end
end D
set_option Elab.async false
set_option linter.all false
set_option maxRecDepth 100000
set_option maxHeartbeats 4000000
namespace D
open PySem PySem.Spec PyProof.Rows L2
section
variable {X : Cx} {pos : Pos} {a b c e : Expr} {ta tb tc te : TD} {K : PySem.W.Frag}
abbrev Kont (K : PySem.W.Frag) (H : Hp) (Qd : QD) (Q : VK) : Prop := ∀ v H' w M',Kp H H' -> RepW K H' w v -> MAbs K H' M' -> Qd w M' -> Q v H'
theorem kgo {H H1 : Hp} {Qd : QD} {Q : VK} (k : Kont K H Qd Q) (kp : Kp H H1) : Kont K H1 Qd Q := λ v H' w M' k2 r m q => k v H' w M' (kp.trans k2) r m q

def dVar (i : Nat) (τ : DS) (M : MH) (Q : QD) : Prop := ∃ w,τ[i]? = some (some w) /\ Q w M
theorem pd_var {i : Nat} (h : PE X e (tVar i)) : PD X e (dVar i) := pe_w h λ σ H Q hq34 => by
  obtain ⟨τ,M,Qd,A,⟨w,e,q⟩,k⟩ := hq34
  obtain ⟨v,e',r⟩ := A.val i w e
  exact ⟨v,e',k v H w M (Kp.refl H) r A.mem q⟩
theorem dv (i : Nat) {x : Str} {pos : Pos} (hN : X.N[i]? = some x := by rfl) (hv : Vis X.env.scope x := by first | exact Or.inl rfl | exact Or.inr (Or.inl rfl) | exact Or.inr (Or.inr rfl)) (hd : (x == ("__debug__" : Str)) = false := by decide)
    (hcd : (x == ("__classdict__" : Str)) = false := by decide) : PD X (.Name x pos) (dVar i) := pd_var (pe_var hN hv hd hcd)
def dC (w : W) (_ : DS) (M : MH) (Q : QD) : Prop := Q w M
theorem pd_c {v : V} {w : W} (h : PE X e (tC v)) (r : ∀ H,RepW X.K H w v) : PD X e (dC w) := pe_w h λ σ H Q ⟨τ,M,Qd,A,q,k⟩ => k v H w M (Kp.refl H) (r H) A.mem q
theorem pd_int {i j pos} : PD X (.Constant (.int i) j pos) (dC (.d (.int i))) := pd_c pe_int λ H => by simp [RepW,RepD]
theorem pd_bl {b j pos} : PD X (.Constant (.bool b) j pos) (dC (.d (.bool b))) := pd_c pe_bl λ H => by simp [RepW,RepD]
theorem pd_non {j pos} : PD X (.Constant .none j pos) (dC (.d .none)) := pd_c pe_non λ H => by simp [RepW,RepD]
theorem pd_str {x j pos} : PD X (.Constant (.str x) j pos) (dC (.d (.str x))) := pd_c pe_str λ H => by simp [RepW,RepD]
def OpD (K : PySem.W.Frag) (r : R2) (rd : W -> W -> MH -> QD -> Prop) : Prop := ∀ x y H w w' M Qd Q,RepW K H w x -> RepW K H w' y -> MAbs K H M -> rd w w' M Qd -> Kont K H Qd Q -> r x y H Q
def dOp (rd : W -> W -> MH -> QD -> Prop) (ta tb : TD) (τ : DS) (M : MH) (Q : QD) : Prop := ta τ M λ w M1 => tb τ M1 λ w' M2 => rd w w' M2 Q
theorem imp_op {r : R2} {rd : W -> W -> MH -> QD -> Prop} (hd : OpD K r rd) {σ : St} {H : Hp} {Q : VK} (h : up K (dOp rd ta tb) σ H Q) : tOp r (up K ta) (up K tb) σ H Q := by
  obtain ⟨τ,M,Qd,A,h,k⟩ := h
  refine ⟨τ,M,_,A,h,λ x H1 w M1 kp r1 m1 q1 => ⟨τ,M1,_,A.go kp m1,q1,λ y H2 w' M2 kp2 r2 m2 q2 => ?_⟩⟩
  exact hd x y H2 w w' M2 Qd Q (r1.keep kp2) r2 m2 q2 (kgo k (kp.trans kp2))
theorem pd_op {op : Operator} {r : R2} {rd : W -> W -> MH -> QD -> Prop} (ho : OpR X (binaryOp op) r) (hd : OpD X.K r rd) (ha : PD X a ta) (hb : PD X b tb) : PD X (.BinOp a op b pos) (dOp rd ta tb) := pe_w (pe_op ho ha hb) λ σ H Q h => imp_op hd h
theorem pd_cmp {op : CmpOp} {r : R2} {rd : W -> W -> MH -> QD -> Prop} (ho : OpR X (compareOp op) r) (hd : OpD X.K r rd) (ha : PD X a ta) (hb : PD X b tb) (hm : behindInMarks op b = false := by first | exact nobehind _ (by decide) (by decide) | rfl) :
    PD X (.Compare a [op] [b] pos) (dOp rd ta tb) := pe_w (pe_cmpR ho ha hb hm) λ σ H Q h => imp_op hd h
theorem pd_ix {r : R2} {rd : W -> W -> MH -> QD -> Prop} (hr : IxR X r) (hd : OpD X.K r rd) (ha : PD X a ta) (hb : PD X b tb) (hs : PlainIx b := by intro _ _; rfl) : PD X (.Subscript a b pos) (dOp rd ta tb) := pe_w (pe_ix hr ha hb hs) λ σ H Q h => imp_op hd h
def dTest (t : TD) (τ : DS) (M : MH) (Q : Bool -> MH -> Prop) : Prop := t τ M λ w M1 => ∃ k,w = .d (.bool k) /\ Q k M1
theorem imp_test {t' : TE} (hi : ∀ σ H Q,up K ta σ H Q -> t' σ H Q) {σ : St} {H : Hp} {Q : Bool -> Hp -> Prop} (h : upT K (dTest ta) σ H Q) : tTest t' σ H Q := by
  obtain ⟨τ,M,Qd,A,h,k⟩ := h
  refine hi σ H _ ⟨τ,M,_,A,h,λ v H' w M' kp r m hq35 => ?_⟩
  obtain ⟨b,e,q⟩ := hq35
  subst e
  simp only [RepW,RepD] at r
  exact ⟨b,r,k b H' M' kp m q⟩
theorem ptd_cmp {op : CmpOp} {r : R2} {rd : W -> W -> MH -> QD -> Prop} (ho : OpR X (compareOp op) r) (hd : OpD X.K r rd) (ha : PD X a ta) (hb : PD X b tb) (hm : behindInMarks op b = false := by first | exact nobehind _ (by decide) (by decide) | rfl) :
    PTd X (.Compare a [op] [b] pos) (dTest (dOp rd ta tb)) := pt_w (pt_cmpR ho ha hb hm) λ σ H Q h => imp_test (λ _ _ _ q => imp_op hd q) h
theorem ptd_val (h : PD X e te) (he : ∀ whole,isTrue e X.env whole = (do let v <- whole; standAt e.pos; holding [v] (truthy v)) := by intro _; rfl) : PTd X e (dTest te) := pt_w (pt_val h he) λ σ H Q q => imp_test (λ _ _ _ z => z) q
def UnD (K : PySem.W.Frag) (r : V -> Hp -> VK -> Prop) (rd : W -> MH -> QD -> Prop) : Prop := ∀ x H w M Qd Q,RepW K H w x -> MAbs K H M -> rd w M Qd -> Kont K H Qd Q -> r x H Q
def dUn (rd : W -> MH -> QD -> Prop) (ta : TD) (τ : DS) (M : MH) (Q : QD) : Prop := ta τ M λ w M1 => rd w M1 Q
theorem pd_un {op : UnaryOp} {r : V -> Hp -> VK -> Prop} {rd : W -> MH -> QD -> Prop} (ho : UnR X (unaryOp op) r) (hd : UnD X.K r rd) (ha : PD X a ta) : PD X (.UnaryOp op a pos) (dUn rd ta) := pe_w (pe_un ho ha) λ σ H Q h => by
  obtain ⟨τ,M,Qd,A,h,k⟩ := h
  exact ⟨τ,M,_,A,h,λ x H1 w M1 kp r1 m1 q1 => hd x H1 w M1 Qd Q r1 m1 q1 (kgo k kp)⟩

variable {tA tB : TTd} {rest : List Expr}
def dAnd (t u : TTd) (τ : DS) (M : MH) (Q : Bool -> MH -> Prop) : Prop := t τ M λ k M1 => if k = true then u τ M1 Q else Q false M1
def dOr (t u : TTd) (τ : DS) (M : MH) (Q : Bool -> MH -> Prop) : Prop := t τ M λ k M1 => if k = true then Q true M1 else u τ M1 Q
def dNot (t : TTd) (τ : DS) (M : MH) (Q : Bool -> MH -> Prop) : Prop := t τ M λ k M1 => Q (!k) M1
abbrev PWd (X : Cx) (e : Expr) (t : TTd) : Prop := PW X e (upT X.K t)
theorem pw_w {e : Expr} {t t' : TT} (h : PW X e t) (k : ∀ σ H Q,t' σ H Q -> t σ H Q) : PW X e t' := λ w pins s σ H Q I q => h w pins s σ H Q I (k σ H Q q)
theorem pwd_and1 (ha : PTd X a tA) : PWd X (.BoolOp .And [a] pos) tA := pw_and1 ha
theorem pwd_or1 (ha : PTd X a tA) : PWd X (.BoolOp .Or [a] pos) tA := pw_or1 ha
theorem pwd_and (ha : PTd X a tA) (hb : PWd X (.BoolOp .And (b :: rest) pos) tB) : PWd X (.BoolOp .And (a :: b :: rest) pos) (dAnd tA tB) := pw_w (pw_and ha hb) λ σ H Q h => by
  obtain ⟨τ,M,Qd,A,h,k⟩ := h
  refine ⟨τ,M,_,A,h,λ b H1 M1 kp m1 q1 => ?_⟩
  cases b with
  | true => rw [if_pos rfl] at q1 ⊢; exact ⟨τ,M1,Qd,A.go kp m1,q1,λ b H2 M2 kp2 m2 q2 => k b H2 M2 (kp.trans kp2) m2 q2⟩
  | false => rw [if_neg Bool.false_ne_true] at q1 ⊢; exact k _ H1 M1 kp m1 q1
theorem pwd_or (ha : PTd X a tA) (hb : PWd X (.BoolOp .Or (b :: rest) pos) tB) : PWd X (.BoolOp .Or (a :: b :: rest) pos) (dOr tA tB) := pw_w (pw_or ha hb) λ σ H Q h => by
  obtain ⟨τ,M,Qd,A,h,k⟩ := h
  refine ⟨τ,M,_,A,h,λ b H1 M1 kp m1 q1 => ?_⟩
  cases b with
  | false => rw [if_neg Bool.false_ne_true] at q1 ⊢; exact ⟨τ,M1,Qd,A.go kp m1,q1,λ b H2 M2 kp2 m2 q2 => k b H2 M2 (kp.trans kp2) m2 q2⟩
  | true => rw [if_pos rfl] at q1 ⊢; exact k _ H1 M1 kp m1 q1
theorem ptd_w (h : PWd X e tA) : PTd X e tA := h.pt
theorem ptd_not (ha : PTd X a tA) : PTd X (.UnaryOp .Not a pos) (dNot tA) := pt_w (pt_not ha) λ σ H Q h => by
  obtain ⟨τ,M,Qd,A,h,k⟩ := h
  exact ⟨τ,M,_,A,h,λ b H1 M1 kp m1 q1 => k (!b) H1 M1 kp m1 q1⟩
def dAndV (ta tb : TD) (τ : DS) (M : MH) (Q : QD) : Prop := ta τ M λ x M1 => ∃ k,x = .d (.bool k) /\ if k = true then tb τ M1 Q else Q (.d (.bool false)) M1
theorem pd_one {op} (h : PD X a ta) : PD X (.BoolOp op [a] pos) ta := pe_one h
theorem pd_and (ha : PD X a ta) (hb : PD X (.BoolOp .And (b :: rest) pos) tb) : PD X (.BoolOp .And (a :: b :: rest) pos) (dAndV ta tb) := pe_w (pe_and ha hb) λ σ H Q h => by
  obtain ⟨τ,M,Qd,A,h,k⟩ := h
  refine ⟨τ,M,_,A,h,λ x H1 w M1 kp r1 m1 hq36 => ?_⟩
  obtain ⟨b,e,q1⟩ := hq36
  subst e
  simp only [RepW,RepD] at r1
  refine ⟨b,r1,?_⟩
  cases b with
  | true => rw [if_pos rfl] at q1 ⊢; exact ⟨τ,M1,Qd,A.go kp m1,q1,kgo k kp⟩
  | false => rw [if_neg Bool.false_ne_true] at q1 ⊢; exact k _ H1 _ M1 kp (by simp [RepW,RepD]) m1 q1
variable {es : List Expr} {t : TAd}
def dNil (_ : DS) (M : MH) (Q : List W -> MH -> Prop) : Prop := Q [] M
def dCons (ta : TD) (tr : TAd) (τ : DS) (M : MH) (Q : List W -> MH -> Prop) : Prop := ta τ M λ w M1 => tr τ M1 λ ws M2 => Q (w :: ws) M2
theorem pad_nil : PAd X [] dNil := pa_w pa_nil λ σ H Q ⟨τ,M,Qd,A,h,k⟩ => k [] H [] M (Kp.refl H) .nil A.mem h
theorem pad_cons (ha : PD X e te) (hr : PAd X es t) (hs : starEach (e :: es) X.env = (false,eval e X.env) :: starEach es X.env := by rfl) : PAd X (e :: es) (dCons te t) := pa_w (pa_cons ha hr hs) λ σ H Q h => by
  obtain ⟨τ,M,Qd,A,h,k⟩ := h
  exact ⟨τ,M,_,A,h,λ x H1 w M1 kp r1 m1 q1 => ⟨τ,M1,_,A.go kp m1,q1,λ xs H2 ws M2 kp2 r2 m2 q2 => k _ H2 _ M2 (kp.trans kp2) (.cons (r1.keep kp2) r2) m2 q2⟩⟩
def datas : List W -> Option (List PyData)
  | [] => some []
  | .d x :: r => (datas r).map (x :: ·)
  | _ :: _ => none
theorem datas_eq : ∀ {ws : List W} {ds : List PyData},datas ws = some ds -> ws = ds.map W.d
  | [],ds,h => by simp only [datas] at h; cases h; rfl
  | .d x :: r,ds,h => by
    simp only [datas] at h
    cases q : datas r with
    | none => rw [q] at h; cases h
    | some l => rw [q] at h; cases h; rw [datas_eq q]; rfl
  | .m _ :: _,ds,h => by simp [datas] at h
  | .t _ :: _,ds,h => by simp [datas] at h
def dLst (t : TAd) (τ : DS) (M : MH) (Q : QD) : Prop := t τ M λ ws M1 => ∃ ds,datas ws = some ds /\ ds.length <= sizeLine /\ Q (.d (.list ds)) M1
theorem frz_new {H : Hp} {p : Addr} {o : Obj} {vs : List V} {ds : List PyData} (hp : H p = none) (r : RepA K H ds vs) : RepD K (upd H p (.frz o (.lst vs))) (.list ds) (.ref p) := by
  simp only [RepD]
  exact ⟨p,vs,rfl,.inl ⟨o,upd_same⟩,r.keep (Kp.new hp)⟩
theorem imp_frz {H : Hp} {vs : List V} {ds : List PyData} {M : MH} {Qd : QD} {Q : VK} {p : Addr} (hp : H p = none) (r : RepA K H ds vs) (m : MAbs K H M) (q : Qd (.d (.list ds)) M) (k : Kont K H Qd Q) :
    ∃ p' u,V.ref p = .ref p' /\ (upd H p (.lst vs)) p' = some u /\ Fz u /\ ∀ o,Q (.ref p) (upd (upd H p (.lst vs)) p' (.frz o u)) := by
  refine ⟨p,_,rfl,upd_same,trivial,λ o => ?_⟩
  rw [upd_upd]
  exact k _ _ (.d (.list ds)) M (Kp.new hp) (frz_new hp r) (m.new hp) q
theorem pd_lst (h : PAd X es t) : PD X (.List es pos) (dLst t) := pe_w (pe_frz (pe_lst h)) λ σ H Q h => by
  obtain ⟨τ,M,Qd,A,h,k⟩ := h
  refine ⟨τ,M,_,A,h,λ vs H1 ws M1 kp r1 m1 hq37 => ?_⟩
  obtain ⟨ds,e,hz,q1⟩ := hq37
  have e' := datas_eq e
  subst e'
  have rA := r1.data
  exact ⟨by rw [rA.length]; exact hz,λ p hp => imp_frz hp rA m1 q1 (kgo k kp)⟩
def dLstM (t : TAd) (τ : DS) (M : MH) (Q : QD) : Prop := t τ M λ ws M1 => ws.length <= sizeLine /\ ∀ p,M1 p = none -> Q (.m p) (updM M1 p (.lst ws))
theorem pd_lstM (h : PAd X es t) : PD X (.List es pos) (dLstM t) := pe_w (pe_lst h) λ σ H Q h => by
  obtain ⟨τ,M,Qd,A,h,k⟩ := h
  refine ⟨τ,M,_,A,h,λ vs H1 ws M1 kp r1 m1 ⟨hz,q1⟩ => ⟨by rw [<- r1.length]; exact hz,λ p hp => ?_⟩⟩
  exact k _ _ (.m p) (updM M1 p (.lst ws)) (kp.trans (Kp.new hp)) rfl (m1.put (mo := .lst ws) (Kp.new hp) ⟨vs,upd_same,r1.keep (Kp.new hp)⟩) (q1 p (m1.free hp))
def dTup (t : TAd) (τ : DS) (M : MH) (Q : QD) : Prop := t τ M λ ws M1 => ∃ ds,datas ws = some ds /\ ds.length <= sizeLine /\ Q (.d (.tuple ds)) M1
theorem pd_tup {x1} (h : PAd X es t) : PD X (.Tuple es x1 pos) (dTup t) := pe_w (pe_tup h) λ σ H Q h => by
  obtain ⟨τ,M,Qd,A,h,k⟩ := h
  refine ⟨τ,M,_,A,h,λ vs H1 ws M1 kp r1 m1 hq38 => ?_⟩
  obtain ⟨ds,e,hz,q1⟩ := hq38
  have e' := datas_eq e
  subst e'
  have rA := r1.data
  refine ⟨by rw [rA.length]; exact hz,λ p hp => k _ _ (.d (.tuple ds)) M1 (kp.trans (Kp.new hp)) ?_ (m1.new hp) q1⟩
  simp only [RepW,RepD]
  exact ⟨p,vs,rfl,.inl (.inl upd_same),rA.keep (Kp.new hp)⟩

variable {x : Str} {p : Pos} {id T : String} {r : List V -> Hp -> VK -> Prop} {rd : List W -> MH -> QD -> Prop}
def CallD (K : PySem.W.Frag) (r : List V -> Hp -> VK -> Prop) (rd : List W -> MH -> QD -> Prop) : Prop := ∀ vs H ws M Qd Q,RepWs K H ws vs -> MAbs K H M -> rd ws M Qd -> Kont K H Qd Q -> r vs H Q
def dCB (rd : List W -> MH -> QD -> Prop) (t : TAd) (τ : DS) (M : MH) (Q : QD) : Prop := t τ M λ ws M1 => rd ws M1 Q
theorem imp_cb (hd : CallD K r rd) {σ : St} {H : Hp} {Q : VK} (h : up K (dCB rd t) σ H Q) : tCB r (upA K t) σ H Q := by
  obtain ⟨τ,M,Qd,A,h,k⟩ := h
  exact ⟨τ,M,_,A,h,λ vs H1 ws M1 kp r1 m1 q1 => hd vs H1 ws M1 Qd Q r1 m1 q1 (kgo k kp)⟩
theorem pd_callB (hc : CallR X (.builtin id) r) (hd : CallD X.K r rd) (hg : Gl X x) (hm : X.mg x = none) (hv : bootBuiltins x = some (.builtin id)) (ha : PAd X (e :: es) t) (hn : x ≠ "__name__" := by decide) (hdb : (x == ("__debug__" : Str)) = false := by decide)
    (he : starEach (e :: es) X.env = (false,eval e X.env) :: starEach es X.env := by rfl) (hpl : (backTo pos (starEach es X.env)).any (·.1) = false := by rfl) : PD X (.Call (.Name x p) (e :: es) [] pos) (dCB rd t) :=
  pe_w (pe_callB hc hg hm hv ha hn hdb he hpl) λ σ H Q h => imp_cb hd h
theorem pd_callTy (hc : CallR X (.type T) r) (hd : CallD X.K r rd) (hg : Gl X x) (hm : X.mg x = none) (hv : bootBuiltins x = some (.type T)) (ha : PAd X (e :: es) t) (hn : x ≠ "__name__" := by decide) (hdb : (x == ("__debug__" : Str)) = false := by decide)
    (he : starEach (e :: es) X.env = (false,eval e X.env) :: starEach es X.env := by rfl) (hpl : (backTo pos (starEach es X.env)).any (·.1) = false := by rfl) : PD X (.Call (.Name x p) (e :: es) [] pos) (dCB rd t) :=
  pe_w (pe_callTy hc hg hm hv ha hn hdb he hpl) λ σ H Q h => imp_cb hd h
end
section
variable {X : Cx} {pos : Pos} {st : Stmt} {sts : List Stmt} {t u : TSd} {e : Expr} {te : TD} {K : PySem.W.Frag}
def dNext (D : Ed) (τ : DS) (M : MH) : Prop := D.nx τ M
def dSeq (t u : TSd) (D : Ed) (τ : DS) (M : MH) : Prop := t { D with nx := u D } τ M
theorem pssd_nil : PSsd X [] dNext := pss_w pss_nil λ D σ H ⟨τ,M,Dd,A,h,k1,_⟩ => k1 σ H τ M (Kp.refl H) A h
theorem pssd_cons (h1 : PSd X st t) (h2 : PSsd X sts u) : PSsd X (st :: sts) (dSeq t u) := pss_w (pss_cons h1 h2) λ D σ H ⟨τ,M,Dd,A,h,k1,k2,k3,k4⟩ =>
  ⟨τ,M,{ Dd with nx := u Dd },A,h,λ σ' H' τ' M' kp A' q => ⟨τ',M',Dd,A',q,λ σ2 H2 τ2 M2 kp2 => k1 σ2 H2 τ2 M2 (kp.trans kp2),λ v H2 w M2 kp2 => k2 v H2 w M2 (kp.trans kp2),λ σ2 H2 τ2 M2 kp2 => k3 σ2 H2 τ2 M2 (kp.trans kp2),λ σ2 H2 τ2 M2 kp2 => k4 σ2 H2 τ2 M2 (kp.trans kp2)⟩,k2,k3,k4⟩
theorem pssd_one (h1 : PSd X st t) : PSsd X [st] t := pss_one h1
def dDrop (te : TD) (D : Ed) (τ : DS) (M : MH) : Prop := te τ M λ _ M1 => D.nx τ M1
theorem psd_expr (he : PD X e te) (hs : swapsWith e none pos.line X.env = pure false := by rfl) : PSd X (.Expr e pos) (dDrop te) := ps_w (ps_expr he hs) λ D σ H ⟨τ,M,Dd,A,h,k1,_⟩ =>
  ⟨τ,M,_,A,h,λ v H1 w M1 kp r m q => k1 σ H1 τ M1 kp (A.go kp m) q⟩
def dRet (te : TD) (D : Ed) (τ : DS) (M : MH) : Prop := te τ M D.rt
theorem psd_ret (he : PD X e te) : PSd X (.Return (some e) pos) (dRet te) := ps_w (ps_ret he) λ D σ H ⟨τ,M,Dd,A,h,k1,k2,_⟩ => ⟨τ,M,_,A,h,λ v H1 w M1 kp r m q => k2 v H1 w M1 kp r m q⟩
def dIf (c : TTd) (t u : TSd) (D : Ed) (τ : DS) (M : MH) : Prop := c τ M λ b M1 => if b = true then t D τ M1 else u D τ M1
theorem psd_if {c : Expr} {a b : List Stmt} {tc : TTd} (hc : PTd X c tc) (ha : PSsd X a t) (hb : PSsd X b u) : PSd X (.If c a b pos) (dIf tc t u) := ps_w (ps_if hc ha hb) λ D σ H hq39 => by
  obtain ⟨τ,M,Dd,A,h,k1,k2,k3,k4⟩ := hq39
  refine ⟨τ,M,_,A,h,λ b H1 M1 kp m q => ?_⟩
  have go : ∀ {t' : TSd},t' Dd τ M1 -> upS X.K t' D σ H1 := λ {t'} q => ⟨τ,M1,Dd,A.go kp m,q,λ σ2 H2 τ2 M2 kp2 => k1 σ2 H2 τ2 M2 (kp.trans kp2),λ v H2 w M2 kp2 => k2 v H2 w M2 (kp.trans kp2),λ σ2 H2 τ2 M2 kp2 => k3 σ2 H2 τ2 M2 (kp.trans kp2),λ σ2 H2 τ2 M2 kp2 => k4 σ2 H2 τ2 M2 (kp.trans kp2)⟩
  cases b with
  | true => rw [if_pos rfl] at q; show (if true = true then upS X.K t D σ H1 else upS X.K u D σ H1); rw [if_pos rfl]; exact go q
  | false => rw [if_neg Bool.false_ne_true] at q; show (if false = true then upS X.K t D σ H1 else upS X.K u D σ H1); rw [if_neg Bool.false_ne_true]; exact go q
abbrev TGd := W -> DS -> MH -> (DS -> MH -> Prop) -> Prop
def upG (K : PySem.W.Frag) (g : TGd) : TG := λ v σ H Q => ∃ w τ M Qd,RepW K H w v /\ Abs K H σ τ M /\ g w τ M Qd /\ ∀ σ' H' τ' M',Kp H H' -> Abs K H' σ' τ' M' -> Qd τ' M' -> Q σ' H'
abbrev PGd (X : Cx) (e : Expr) (g : TGd) : Prop := PG X e (upG X.K g)
theorem pg_w {e : Expr} {g g' : TG} (h : PG X e g) (k : ∀ v σ H Q,g' v σ H Q -> g v σ H Q) : PG X e g' := λ pins s σ H v u Q I r q => h pins s σ H v u Q I r (k v σ H Q q)
def gN (i : Nat) (w : W) (τ : DS) (M : MH) (Q : DS -> MH -> Prop) : Prop := Q (τ.set i (some w)) M
theorem pgd_name {i : Nat} {x : Str} (hN : X.N.Nodup) (hi : X.N[i]? = some x) (hx : Loc X.env.scope x) (hf : X.fn x = true \/ X.env.scope.names.lookup x = some .local := by first | exact .inl rfl | exact .inr rfl | assumption) : PGd X (.Name x pos) (gN i) :=
  pg_w (pg_name hN hi hx hf) λ v σ H Q ⟨w,τ,M,Qd,r,A,h,k⟩ => k _ H _ M (Kp.refl H) (A.set i r) h
def dAsg (te : TD) (g : TGd) (D : Ed) (τ : DS) (M : MH) : Prop := te τ M λ w M1 => g w τ M1 D.nx
theorem imp_asg {g : TGd} {D : Ends} {σ : St} {H : Hp} (h : upS K (dAsg te g) D σ H) : tAsg (up K te) (upG K g) D σ H := by
  obtain ⟨τ,M,Dd,A,h,k1,_⟩ := h
  exact ⟨τ,M,_,A,h,λ v H1 w M1 kp r m q => ⟨w,τ,M1,_,r,A.go kp m,q,λ σ2 H2 τ2 M2 kp2 A2 q2 => k1 σ2 H2 τ2 M2 (kp.trans kp2) A2 q2⟩⟩
theorem psd_asg {tg : Expr} {g : TGd} (he : PD X e te) (hg : PGd X tg g) (hs : swapsWithSole [tg] e pos.line X.env = pure false := by rfl) (hw : swappedStores [tg] e X.env = pure none := by rfl)
    (h1 : (assignEach [tg] X.env).map (·.2) = [assign tg X.env] := by rfl) : PSd X (.Assign [tg] e pos) (dAsg te g) := ps_w (ps_asg he hg hs hw h1) λ D σ H h => imp_asg h
theorem psd_set {i : Nat} {x : Str} {pos' : Pos} (hN : X.N.Nodup) (hi : X.N[i]? = some x) (hx : Loc X.env.scope x) (he : PD X e te) (hs : swapsWith e (some (.Name x pos')) pos.line X.env = pure false := by rfl) (hf : X.fn x = true \/ X.env.scope.names.lookup x = some .local := by first | exact .inl rfl | exact .inr rfl | assumption) :
    PSd X (.Assign [.Name x pos'] e pos) (dAsg te (gN i)) := ps_w (ps_set hN hi hx he hs hf) λ D σ H ⟨τ,M,Dd,A,h,k1,_⟩ =>
  ⟨τ,M,_,A,h,λ v H1 w M1 kp r m q => k1 _ H1 _ M1 kp ((A.go kp m).set i r) q⟩
end
abbrev SpD := List W -> MH -> QD -> Prop
def upSp (K : PySem.W.Frag) (sp : SpD) : Sp := λ vs H Q _ => ∃ ws M Qd,RepWs K H ws vs /\ MAbs K H M /\ sp ws M Qd /\ Kont K H Qd Q
section
variable {X : Cx} {pos p : Pos} {k : Nat} {f : Addr} {fd : FuncData} {ps : List Str} {sp : SpD} {x : Str} {e : Expr} {es : List Expr} {t : TAd}
def dCall (sp : SpD) (t : TAd) (τ : DS) (M : MH) (Q : QD) : Prop := t τ M λ ws M1 => sp ws M1 Q
theorem pd_call (F : FnOk X.prog X.w X.K X.mg X.base CX0 k f fd ps (upSp X.K sp)) (hr : Room k X.A) (hg : Gl X x) (hm : X.mg x = some (.ref f)) (hk : PySem.W.keepIn X.K (.ref f) = true) (hb : Binds X.K fd ps [])
    (ha : PAd X (e :: es) t) (hdb : (x == ("__debug__" : Str)) = false := by decide) (he : starEach (e :: es) X.env = (false,eval e X.env) :: starEach es X.env := by rfl) (hpl : (backTo pos (starEach es X.env)).any (·.1) = false := by rfl) :
    PD X (.Call (.Name x p) (e :: es) [] pos) (dCall sp t) := pe_w (pe_call (E := E0) (dvs := []) F hr hg hm hk hb .nil pass0 ha hdb he hpl) λ σ H Q h => by
  obtain ⟨τ,M,Qd,A,h,k⟩ := h
  exact ⟨τ,M,_,A,h,λ vs H1 ws M1 kp r1 m1 q1 => ⟨ws,M1,Qd,by rw [List.append_nil]; exact r1,m1,q1,kgo k kp⟩⟩
end
def startD (N : List Str) (ws : List W) : DS := ws.map some ++ List.replicate (N.length - ws.length) none
section
variable {P : Program} {w : World} {K : PySem.W.Frag} {mg : Str -> Option Value} {base : Heap}
theorem abs_start {H : Hp} {N : List Str} {ws : List W} {vs : List V} {M : MH} (r : RepWs K H ws vs) (m : MAbs K H M) : Abs K H (start N vs) (startD N ws) M := by
  have hl := r.length
  refine ⟨?_,λ i w e => ?_,m⟩
  · simp [L2.start,startD,hl]
  · unfold startD at e
    by_cases hi : i < ws.length
    · rw [List.getElem?_append_left (by simpa using hi),List.getElem?_map] at e
      cases q : ws[i]? with
      | none => rw [q] at e; cases e
      | some w' =>
        rw [q] at e
        cases e
        obtain ⟨v,e1,r1⟩ := r.get q
        refine ⟨v,?_,r1⟩
        unfold L2.start
        rw [List.getElem?_append_left (by rw [List.length_map,<- hl]; exact hi),List.getElem?_map,e1]
        rfl
    · rw [List.getElem?_append_right (by simpa using hi),List.getElem?_replicate] at e
      split at e <;> cases e
theorem fun_ok {x qual : Str} {st : Stmt} {f : Addr} {fd : FuncData} {N ps : List Str} {k : Nat} {sp : SpD} {t : TSd} (F : Fun K x qual st f fd) (S : FnScope N ps (defScope st)) (len : ∀ ws M Q,sp ws M Q -> ws.length = ps.length)
    (hbody : ∀ (cdv : Value) (A : Around) (outer : List Env) (s : Shared) (H : Hp) (E : XK),Room k (A.deeper (envOfC qual (defScope st) s.heap.objs.size f cdv)) ->
      PSsd (cxOf CX0 P w K mg base N qual (defScope st) f cdv A outer s H E).nox (defBody st) t)
    (read : ∀ ws M Q,sp ws M Q -> t { nx := λ _ M' => Q (.d .none) M',rt := Q } (startD N ws) M) : FnOk P w K mg base CX0 (k + 1) f fd ps (upSp K sp) := by
  refine F.ok S (λ vs H Q E h => ?_) (λ cdv A outer s H vs Q E hr h => ?_)
  · obtain ⟨ws,M,Qd,r,_,q,_⟩ := h
    rw [<- r.length]
    exact len _ _ _ q
  · obtain ⟨ws,M,Qd,r,m,q,kk⟩ := h
    refine ⟨_,hbody cdv A outer s H E hr,startD N ws,M,_,abs_start r m,read ws M Qd q,λ σ' H' τ' M' kp A' q' => ?_,λ v H' w' M' kp r' m' q' => ?_,λ σ' H' τ' M' kp A' q' => q'.elim,λ σ' H' τ' M' kp A' q' => q'.elim⟩
    · exact kk _ H' _ M' kp (by simp [RepW,RepD]) A'.mem q'
    · exact kk v H' w' M' kp r' m' q'
end
end D
set_option Elab.async false
set_option linter.all false
set_option maxRecDepth 100000
set_option maxHeartbeats 4000000
namespace D
open PySem PySem.Spec PyProof.Rows L2
section
variable {X : Cx} {pins : List (Addr × Obj)} {σ : St} {H : Hp} {s : Shared}
mutual
theorem reads_of (I : Inv X pins σ H s) : ∀ (d : PyData) {x : V} {u : Value},RepD X.K H d x -> RelV x u -> d.hasDict = false -> ∃ as,Reads s.heap u d as
  | .none,x,u,h,r,_ => by
    simp only [RepD] at h; subst h
    cases (show u = Value.none from r)
    exact ⟨_,.none⟩
  | .bool b,x,u,h,r,_ => by
    simp only [RepD] at h; subst h
    cases (show u = Value.bool b from r)
    exact ⟨_,.bool b⟩
  | .int i,x,u,h,r,_ => by
    simp only [RepD] at h; subst h
    obtain ⟨t,e⟩ := (show ∃ t,u = Value.int i t from r)
    subst e
    exact ⟨_,.int i t⟩
  | .str z,x,u,h,r,_ => by
    simp only [RepD] at h; subst h
    obtain ⟨t,e⟩ := (show ∃ t,u = Value.str z t from r)
    subst e
    exact ⟨_,.str z t⟩
  | .list ds,x,u,h,r,hd => by
    simp only [RepD] at h
    obtain ⟨a,vs,e,hs,ra⟩ := h
    subst e
    cases (show u = Value.ref a from r)
    obtain ⟨its,rv,⟨o,n,e1,e2,e3,e4⟩,hz⟩ := I.list hs.sq
    obtain ⟨as,q⟩ := readsA_of I ds ra rv (by simpa [PyData.hasDict] using hd)
    exact ⟨_,.list e1 e2 e4 (by simpa using q)⟩
  | .tuple ds,x,u,h,r,hd => by
    simp only [RepD] at h
    obtain ⟨a,vs,e,hs,ra⟩ := h
    subst e
    cases (show u = Value.ref a from r)
    obtain ⟨its,rv,⟨o,e1,e2,n,e4⟩,hz⟩ := I.tuple hs
    obtain ⟨as,q⟩ := readsA_of I ds ra rv (by simpa [PyData.hasDict] using hd)
    exact ⟨_,.tuple e1 e2 e4 (by simpa using q)⟩
  | .dict kvs,x,u,h,r,hd => by simp [PyData.hasDict] at hd
theorem readsA_of (I : Inv X pins σ H s) : ∀ (ds : List PyData) {xs : List V} {us : List Value},RepA X.K H ds xs -> Vals xs us -> PyData.hasDictAll ds = false -> ∃ as,ReadsAll s.heap us ds as
  | [],xs,us,h,r,_ => by
    simp only [RepA] at h; subst h
    cases r
    exact ⟨_,.nil⟩
  | d :: ds,xs,us,h,r,hd => by
    simp only [RepA] at h
    obtain ⟨v,vr,e,h1,h2⟩ := h
    subst e
    simp only [PyData.hasDictAll,Bool.or_eq_false_iff] at hd
    cases r with
    | cons r1 r2 =>
      obtain ⟨as,q1⟩ := reads_of I d h1 r1 hd.1
      obtain ⟨bs,q2⟩ := readsA_of I ds h2 r2 hd.2
      exact ⟨_,.cons q1 q2⟩
end
def flatD : PyData -> Bool
  | .none | .bool _ | .int _ | .str _ => true
  | _ => false
theorem reads_flat : ∀ {d : PyData} {x : V} {u : Value} {h : Heap} {K : PySem.W.Frag} {H : Hp},flatD d = true -> RepD K H d x -> RelV x u -> Reads h u d []
  | .none,x,u,h,K,H,_,e,r => by simp only [RepD] at e; subst e; cases (show u = Value.none from r); exact .none
  | .bool b,x,u,h,K,H,_,e,r => by simp only [RepD] at e; subst e; cases (show u = Value.bool b from r); exact .bool b
  | .int i,x,u,h,K,H,_,e,r => by simp only [RepD] at e; subst e; obtain ⟨t,z⟩ := (show ∃ t,u = Value.int i t from r); subst z; exact .int i t
  | .str i,x,u,h,K,H,_,e,r => by simp only [RepD] at e; subst e; obtain ⟨t,z⟩ := (show ∃ t,u = Value.str i t from r); subst z; exact .str i t
  | .list _,_,_,_,_,_,f,_,_ => nomatch f
  | .tuple _,_,_,_,_,_,f,_,_ => nomatch f
  | .dict _,_,_,_,_,_,f,_,_ => nomatch f
theorem pairs_reads {P : Program} {w : World} {h : Heap} {K : PySem.W.Frag} {H : Hp} : ∀ {kvs : List (PyData × PyData)} {l : List (Key × V)} {vs : List (Key × Value)} {es : List DictEntry},(kvs.all λ p => flatD p.2) = true -> RepK K H kvs l -> KV l vs -> Pairs (mixKind P w) es vs ->
    ReadsAll h (es.map (·.key)) (kvs.map (·.1)) [] /\ ReadsAll h (es.map (·.val)) (kvs.map (·.2)) []
  | [],l,vs,es,_,r,kv,p => by
    simp only [RepK] at r; subst r
    cases kv
    cases p
    exact ⟨.nil,.nil⟩
  | (k,d) :: kvs,l,vs,es,f,r,kv,p => by
    simp only [RepK] at r
    obtain ⟨key,v,lr,e,ek,r1,r2⟩ := r
    subst e
    rw [List.all_cons,Bool.and_eq_true] at f
    cases kv with
    | cons q1 q2 =>
      rename_i kv0 vs0
      obtain ⟨k0,u0⟩ := kv0
      obtain ⟨q1,q3⟩ := q1
      cases p with
      | cons p1 p2 p3 =>
        rename_i en es0
        obtain ⟨i1,i2⟩ := pairs_reads f.2 r2 q2 p3
        have rk : Reads h en.key k [] := by
          have hk : keyIs k0 en.key = true := p1
          have hk0 : key = k0 := q1
          subst hk0
          rw [ek]
          rcases keyIs_shape hk with ⟨i,t,z1,z2⟩ | ⟨i,t,z1,z2⟩
          · subst z1; rw [z2]; exact .int i t
          · subst z1; rw [z2]; exact .str i t
        have rv : Reads h en.val d [] := by
          rw [p2]
          exact reads_flat f.1 r1 q3
        exact ⟨.cons rk i1,.cons rv i2⟩
def reprOk (d : PyData) : Bool := d.showable && decide (d.shown.length <= sizeLine) && decide (d.depth <= 60) && (!d.hasDict || match d with
  | .dict kvs => kvs.all λ p => flatD p.2
  | _ => false)
theorem reads_repr (I : Inv X pins σ H s) {d : PyData} {x : V} {u : Value} (h : RepD X.K H d x) (r : RelV x u) (ok : reprOk d = true) : ∃ as,Reads s.heap u d as /\ (d.hasDict = true -> sysModules ∉ as) := by
  simp only [reprOk,Bool.and_eq_true,Bool.or_eq_true] at ok
  cases hd : d.hasDict with
  | false =>
    obtain ⟨as,q⟩ := reads_of I d h r hd
    exact ⟨as,q,λ z => absurd z (by simp)⟩
  | true =>
    have f := ok.2.resolve_left (by simp [hd])
    cases d with
    | dict kvs =>
      simp only [RepD] at h
      obtain ⟨a,o,l,e,ha,rk⟩ := h
      subst e
      cases (show u = Value.ref a from r)
      obtain ⟨z,hs,vs,kv,o',es,ep,e1,e2,e3,e4,e5,e6⟩ := dk_rd I.hok (.inr ⟨o,ha⟩)
      obtain ⟨q1,q2⟩ := pairs_reads (h := s.heap) f rk kv e5
      refine ⟨_,.dict e1 e2.1 e3 q1 q2,λ _ hm => ?_⟩
      simp only [List.append_nil] at hm
      have hm' : sysModules = a := by simpa using hm
      rw [<- hm'] at hs
      simp at hs
    | _ => exact absurd f (by simp)
def eqOk (d : PyData) : Bool := SeqAt.shaped d && !d.hasDict
def eqOk2 : PyData -> PyData -> Bool
  | .str _,.str _ => true
  | d,d' => eqOk d && eqOk d'
theorem eqOk2_cases {d d' : PyData} (h : eqOk2 d d' = true) : (∃ x y,d = .str x /\ d' = .str y) \/ (eqOk d = true /\ eqOk d' = true) := by
  cases d with
  | str x =>
    cases d' with
    | str y => exact .inl ⟨x,y,rfl,rfl⟩
    | _ => exact .inr (by simpa [eqOk2] using h)
  | _ => exact .inr (by simpa [eqOk2] using h)
theorem str_dec (x y : Str) : decide (V.str x = V.str y) = PyData.eqv (.str x) (.str y) := by
  rw [PyData.eqv]
  by_cases e : x = y
  · subst e; simp
  · rw [decide_eq_false (λ z => e (V.str.inj z))]
    exact (beq_eq_false_iff_ne.mpr e).symm
theorem op_eqD {k : Nat} (hr : Room k X.A) : OpR X (compareOp .Eq) (λ x y H Q => ∃ d d',RepD X.K H d x /\ RepD X.K H d' y /\ eqOk2 d d' = true /\ Q (.bl (PyData.eqv d d')) H) := by
  intro pins s σ H x y v u Q I rx ry h
  obtain ⟨d,d',h1,h2,o,q⟩ := h
  rcases eqOk2_cases o with ⟨a,b,e1,e2⟩ | ⟨o1,o2⟩
  · subst e1; subst e2
    simp only [RepD] at h1 h2
    subst h1; subst h2
    exact op_eq pins s σ H _ _ v u Q I rx ry ⟨rfl,by rw [str_dec]; exact q⟩
  simp only [eqOk,Bool.and_eq_true,Bool.not_eq_true'] at o1 o2
  obtain ⟨as,r1⟩ := reads_of I d h1 rx o1.2
  obtain ⟨bs,r2⟩ := reads_of I d' h2 ry o2.2
  exact eq_dataH r1 r2 o1.1 o2.1 hr.units ⟨.bl _,H,I,rfl,q⟩
theorem op_neD {k : Nat} (hr : Room k X.A) : OpR X (compareOp .NotEq) (λ x y H Q => ∃ d d',RepD X.K H d x /\ RepD X.K H d' y /\ eqOk2 d d' = true /\ Q (.bl (!PyData.eqv d d')) H) := by
  intro pins s σ H x y v u Q I rx ry h
  obtain ⟨d,d',h1,h2,o,q⟩ := h
  rcases eqOk2_cases o with ⟨a,b,e1,e2⟩ | ⟨o1,o2⟩
  · subst e1; subst e2
    simp only [RepD] at h1 h2
    subst h1; subst h2
    exact op_ne pins s σ H _ _ v u Q I rx ry ⟨rfl,by rw [str_dec]; exact q⟩
  simp only [eqOk,Bool.and_eq_true,Bool.not_eq_true'] at o1 o2
  obtain ⟨as,r1⟩ := reads_of I d h1 rx o1.2
  obtain ⟨bs,r2⟩ := reads_of I d' h2 ry o2.2
  exact ne_dataH r1 r2 o1.1 o2.1 hr.units ⟨.bl _,H,I,rfl,q⟩
end
end D
set_option Elab.async false
set_option linter.all false
set_option maxRecDepth 100000
set_option maxHeartbeats 4000000
namespace D
open PySem PySem.Spec PyProof.Rows L2
section
variable {X : Cx} {K : PySem.W.Frag}
theorem OpR.or {f : Value -> Value -> Sem Value} {r r' : R2} (h : OpR X f r) (h' : OpR X f r') : OpR X f (λ x y H Q => r x y H Q \/ r' x y H Q) := by
  intro pins s σ H x y v u Q I rx ry q
  rcases q with q | q
  · exact h pins s σ H x y v u Q I rx ry q
  · exact h' pins s σ H x y v u Q I rx ry q
theorem OpD.or {r r' : R2} {rd rd' : W -> W -> MH -> QD -> Prop} (h : OpD K r rd) (h' : OpD K r' rd') : OpD K (λ x y H Q => r x y H Q \/ r' x y H Q) (λ w w' M Q => rd w w' M Q \/ rd' w w' M Q) := by
  intro x y H w w' M Qd Q r1 r2 m q k
  rcases q with q | q
  · exact .inl (h x y H w w' M Qd Q r1 r2 m q k)
  · exact .inr (h' x y H w w' M Qd Q r1 r2 m q k)
def rdI0 (g : Int -> Int -> PyData) (w : W) (w' : W) (M : MH) (Q : QD) : Prop := ∃ i j,w = .d (.int i) /\ w' = .d (.int j) /\ Q (.d (g i j)) M
def rdI (C : Int -> Int -> Prop) (g : Int -> Int -> PyData) (w : W) (w' : W) (M : MH) (Q : QD) : Prop := ∃ i j,w = .d (.int i) /\ w' = .d (.int j) /\ C i j /\ Q (.d (g i j)) M
theorem opd_I0 {g : Int -> Int -> V} {gd : Int -> Int -> PyData} (hg : ∀ i j H,RepD K H (gd i j) (g i j)) : OpD K (rI0 g) (rdI0 gd) := by
  intro x y H w w' M Qd Q r1 r2 m ⟨i,j,e1,e2,q⟩ k
  subst e1; subst e2
  simp only [RepW,RepD] at r1 r2
  exact ⟨i,j,r1,r2,k _ H (.d (gd i j)) M (Kp.refl H) (hg i j H) m q⟩
theorem opd_I {C : Int -> Int -> Prop} {g : Int -> Int -> V} {gd : Int -> Int -> PyData} (hg : ∀ i j H,RepD K H (gd i j) (g i j)) : OpD K (rI C g) (rdI C gd) := by
  intro x y H w w' M Qd Q r1 r2 m ⟨i,j,e1,e2,c,q⟩ k
  subst e1; subst e2
  simp only [RepW,RepD] at r1 r2
  exact ⟨i,j,r1,r2,c,k _ H (.d (gd i j)) M (Kp.refl H) (hg i j H) m q⟩
def rdSub (w w' : W) (M : MH) (Q : QD) : Prop := rdI0 (λ i j => .int (i - j)) w w' M Q
def rdMul (w w' : W) (M : MH) (Q : QD) : Prop := rdI CMul (λ i j => .int (i * j)) w w' M Q
def rdMod (w w' : W) (M : MH) (Q : QD) : Prop := rdI (λ _ j => 0 < j) (λ i j => .int (i % j)) w w' M Q
def rdDiv (w w' : W) (M : MH) (Q : QD) : Prop := rdI CDiv (λ i j => .int (i / j)) w w' M Q
def rdPow (w w' : W) (M : MH) (Q : QD) : Prop := rdI CPow (λ i j => .int (i ^ j.toNat)) w w' M Q
def rdAdd (w : W) (w' : W) (M : MH) (Q : QD) : Prop := rdI0 (λ i j => .int (i + j)) w w' M Q \/ ∃ x y,w = .d (.str x) /\ w' = .d (.str y) /\ x.length + y.length <= sizeLine /\ Q (.d (.str (x ++ y))) M
theorem opd_sub : OpD K (rI0 λ i j => .int (i - j)) rdSub := opd_I0 λ _ _ _ => by simp [RepD]
theorem opd_mul : OpD K (rI CMul λ i j => .int (i * j)) rdMul := opd_I λ _ _ _ => by simp [RepD]
theorem opd_mod : OpD K (rI (λ _ j => 0 < j) λ i j => .int (i % j)) rdMod := opd_I λ _ _ _ => by simp [RepD]
theorem opd_div : OpD K (rI CDiv λ i j => .int (i / j)) rdDiv := opd_I λ _ _ _ => by simp [RepD]
theorem opd_pow : OpD K (rI CPow λ i j => .int (i ^ j.toNat)) rdPow := opd_I λ _ _ _ => by simp [RepD]
def rStr2 : R2 := λ x y H Q => ∃ i j,x = .str i /\ y = .str j /\ i.length + j.length <= sizeLine /\ Q (.str (i ++ j)) H
theorem opd_addS : OpD K rStr2 (λ w w' M Q => ∃ x y,w = .d (.str x) /\ w' = .d (.str y) /\ x.length + y.length <= sizeLine /\ Q (.d (.str (x ++ y))) M) := by
  intro x y H w w' M Qd Q r1 r2 m ⟨i,j,e1,e2,c,q⟩ k
  subst e1; subst e2
  simp only [RepW,RepD] at r1 r2
  exact ⟨i,j,r1,r2,c,k _ H (.d (.str (i ++ j))) M (Kp.refl H) (by simp [RepW,RepD]) m q⟩
theorem op_add2 : OpR X (binaryOp .Add) (λ x y H Q => rI0 (λ i j => .int (i + j)) x y H Q \/ rStr2 x y H Q) := OpR.or op_add op_add_str
theorem opd_add2 : OpD K (λ x y H Q => rI0 (λ i j => .int (i + j)) x y H Q \/ rStr2 x y H Q) rdAdd := OpD.or (opd_I0 λ _ _ _ => by simp [RepD]) opd_addS
def rS (g : Str -> Str -> Bool) : R2 := λ x y H Q => ∃ i j,x = .str i /\ y = .str j /\ Q (.bl (g i j)) H
def rdS (g : Str -> Str -> Bool) (w : W) (w' : W) (M : MH) (Q : QD) : Prop := ∃ i j,w = .d (.str i) /\ w' = .d (.str j) /\ Q (.d (.bool (g i j))) M
theorem opd_S {g : Str -> Str -> Bool} : OpD K (rS g) (rdS g) := by
  intro x y H w w' M Qd Q r1 r2 m ⟨i,j,e1,e2,q⟩ k
  subst e1; subst e2
  simp only [RepW,RepD] at r1 r2
  exact ⟨i,j,r1,r2,k _ H (.d (.bool (g i j))) M (Kp.refl H) (by simp [RepW,RepD]) m q⟩
theorem op_le_str : OpR X (compareOp .LtE) (rS λ x y => !decide (y.cps.toList < x.cps.toList)) := by
  intro pins s σ H x y v u Q I rx ry h
  obtain ⟨i,j,rfl,rfl,q⟩ := h
  obtain ⟨t,rfl⟩ := rx
  obtain ⟨t',rfl⟩ := ry
  exact PySem.P.le_str ⟨.bl _,H,I,rfl,q⟩
def rdLe (w : W) (w' : W) (M : MH) (Q : QD) : Prop := rdI0 (λ i j => .bool (decide (i <= j))) w w' M Q \/ rdS (λ x y => !decide (y.cps.toList < x.cps.toList)) w w' M Q
theorem op_le2 : OpR X (compareOp .LtE) (λ x y H Q => rI0 (λ i j => .bl (decide (i <= j))) x y H Q \/ rS (λ x y => !decide (y.cps.toList < x.cps.toList)) x y H Q) := OpR.or op_le op_le_str
theorem opd_le2 : OpD K (λ x y H Q => rI0 (λ i j => .bl (decide (i <= j))) x y H Q \/ rS (λ x y => !decide (y.cps.toList < x.cps.toList)) x y H Q) rdLe := OpD.or (opd_I0 λ _ _ _ => by simp [RepD]) opd_S
def rdLt (w w' : W) (M : MH) (Q : QD) : Prop := rdI0 (λ i j => .bool (decide (i < j))) w w' M Q
def rdGt (w w' : W) (M : MH) (Q : QD) : Prop := rdI0 (λ i j => .bool (decide (j < i))) w w' M Q
def rdGe (w w' : W) (M : MH) (Q : QD) : Prop := rdI0 (λ i j => .bool (decide (j <= i))) w w' M Q
theorem opd_lt : OpD K (rI0 λ i j => .bl (decide (i < j))) rdLt := opd_I0 λ _ _ _ => by simp [RepD]
theorem opd_gt : OpD K (rI0 λ i j => .bl (decide (j < i))) rdGt := opd_I0 λ _ _ _ => by simp [RepD]
theorem opd_ge : OpD K (rI0 λ i j => .bl (decide (j <= i))) rdGe := opd_I0 λ _ _ _ => by simp [RepD]
def rdEq (w : W) (w' : W) (M : MH) (Q : QD) : Prop := ∃ d d',w = .d d /\ w' = .d d' /\ eqOk2 d d' = true /\ Q (.d (.bool (PyData.eqv d d'))) M
theorem opd_eq : OpD K (λ x y H Q => ∃ d d',RepD K H d x /\ RepD K H d' y /\ eqOk2 d d' = true /\ Q (.bl (PyData.eqv d d')) H) rdEq := by
  intro x y H w w' M Qd Q r1 r2 m ⟨d,d',e1,e2,o1,q⟩ k
  subst e1; subst e2
  exact ⟨d,d',r1,r2,o1,k _ H (.d (.bool _)) M (Kp.refl H) (by simp [RepW,RepD]) m q⟩
def rdNeg (w : W) (M : MH) (Q : QD) : Prop := ∃ i,w = .d (.int i) /\ Q (.d (.int (-i))) M
theorem und_neg : UnD K (rU λ i => .int (-i)) rdNeg := by
  intro x H w M Qd Q r m ⟨i,e,q⟩ k
  subst e
  simp only [RepW,RepD] at r
  exact ⟨i,r,k _ H (.d (.int (-i))) M (Kp.refl H) (by simp [RepW,RepD]) m q⟩
def fitW : W -> Bool
  | .d (.str z) => decide (z.length <= sizeLine)
  | _ => true
def ixW (M : MH) : W -> Int -> Option W
  | .d (.list ds),i => (atI ds i).map W.d
  | .d (.tuple ds),i => (atI ds i).map W.d
  | .d (.str z),i => (atI z.cps.toList i).map λ c => W.d (.str ⟨#[c]⟩)
  | .m a,i => match M a with
    | some (.lst ws) => atI ws i
    | some (.tup ws) => atI ws i
    | _ => none
  | _,_ => none
def rdIx (w : W) (w' : W) (M : MH) (Q : QD) : Prop := ∃ i x,w' = .d (.int i) /\ ixW M w i = some x /\ fitW w = true /\ Q x M
theorem atI_repA {H : Hp} {ds : List PyData} {vs : List V} {i : Int} {d : PyData} (r : RepA K H ds vs) (e : atI ds i = some d) : ∃ v,atI vs i = some v /\ RepD K H d v := by
  unfold atI at e ⊢
  rw [r.length]
  cases q : ixN ds.length i with
  | none => rw [q] at e; cases e
  | some j =>
    rw [q] at e
    exact r.get e
theorem atI_repWs {H : Hp} {ds : List W} {vs : List V} {i : Int} {d : W} (r : RepWs K H ds vs) (e : atI ds i = some d) : ∃ v,atI vs i = some v /\ RepW K H d v := by
  unfold atI at e ⊢
  rw [<- r.length]
  cases q : ixN ds.length i with
  | none => rw [q] at e; cases e
  | some j =>
    rw [q] at e
    exact r.get e
theorem opd_ix : OpD K (rIx K) rdIx := by
  intro x y H w w' M Qd Q r1 r2 m ⟨i,z,e2,ei,hf,q⟩ k
  subst e2
  simp only [RepW,RepD] at r2
  cases w with
  | t n => simp [ixW] at ei
  | m a =>
    simp only [RepW] at r1
    simp only [ixW] at ei
    cases hm : M a with
    | none => rw [hm] at ei; cases ei
    | some mo =>
      rw [hm] at ei
      cases mo with
      | lst ws =>
        obtain ⟨vs,e1,rw1⟩ := m a _ hm
        obtain ⟨v,e3,rv⟩ := atI_repWs rw1 ei
        exact .inl ⟨a,vs,i,v,r1,r2,SqL.of e1,e3,k v H z M (Kp.refl H) rv m q⟩
      | dic _ => cases ei
      | dct _ => cases ei
      | fdic _ => cases ei
      | ins _ _ => cases ei
      | tup ws =>
        obtain ⟨vs,e1,rw1⟩ := m a _ hm
        obtain ⟨v,e3,rv⟩ := atI_repWs rw1 ei
        exact .inr (.inl ⟨a,vs,i,v,r1,r2,.inl (.inl e1),e3,k v H z M (Kp.refl H) rv m q⟩)
      | flst _ => cases ei
      | exc _ _ => cases ei
  | d d =>
    cases d with
    | list ds =>
      simp only [RepW,RepD] at r1
      obtain ⟨a,vs,e1,hs,ra⟩ := r1
      simp only [ixW] at ei
      cases h : atI ds i with
      | none => rw [h] at ei; cases ei
      | some d =>
        rw [h] at ei
        cases ei
        obtain ⟨v,e3,rv⟩ := atI_repA ra h
        exact .inl ⟨a,vs,i,v,e1,r2,hs.sq,e3,k v H (.d d) M (Kp.refl H) rv m q⟩
    | tuple ds =>
      simp only [RepW,RepD] at r1
      obtain ⟨a,vs,e1,hs,ra⟩ := r1
      simp only [ixW] at ei
      cases h : atI ds i with
      | none => rw [h] at ei; cases ei
      | some d =>
        rw [h] at ei
        cases ei
        obtain ⟨v,e3,rv⟩ := atI_repA ra h
        exact .inr (.inl ⟨a,vs,i,v,e1,r2,hs,e3,k v H (.d d) M (Kp.refl H) rv m q⟩)
    | str s =>
      simp only [RepW,RepD] at r1
      simp only [ixW] at ei
      cases h : atI s.cps.toList i with
      | none => rw [h] at ei; cases ei
      | some c =>
        rw [h] at ei
        cases ei
        exact .inr (.inr ⟨s,i,c,r1,r2,of_decide_eq_true hf,h,k _ H (.d (.str ⟨#[c]⟩)) M (Kp.refl H) (by simp [RepW,RepD]) m q⟩)
    | _ => simp [ixW] at ei
theorem pe_frzO {e : Expr} {t : TE} (h : PE X e t) : PE X e (λ σ H Q => t σ H λ v H1 => Q v H1 \/ ∃ p u,v = .ref p /\ H1 p = some u /\ Fz u /\ ∀ o,Q v (upd H1 p (.frz o u))) := by
  intro pins s σ H Q I hq
  refine thn (h pins s σ H _ I hq) λ v s1 hq40 => ?_
  obtain ⟨x,H1,I1,r1,q⟩ := hq40
  rcases q with q | ⟨p,u,e1,e2,f,q⟩
  · exact ⟨x,_,I1,r1,q⟩
  · obtain ⟨o,I2⟩ := I1.freeze e2 f
    exact ⟨x,_,I2,r1,q o⟩
def rSlS : V -> Option Int -> Option Int -> Hp -> VK -> Prop := λ x lo hi H Q => ∃ z,x = .str z /\ z.length <= sizeLine /\ Q (.str (Txt.slice z lo hi)) H
theorem sl_str : SlR X rSlS := by
  intro pins s σ H x v vl vu lo hi sl Q I rx hs pl pu h
  obtain ⟨z,rfl,hz,q⟩ := h
  obtain ⟨t,rfl⟩ := rx
  have fin : ∀ t' k,EP X pins σ Q (.str (Txt.slice z lo hi) t') { s with toks := k } := λ t' k => ⟨.str _,H,I.tok _,⟨_,rfl⟩,q⟩
  refine ⟨"str",_,F.slot_str_getitem.lookup,typeIs_str _ _ _,?_⟩
  cases pl with
  | none =>
    cases pu with
    | none => exact wpAny_getItem_str_slice (l := none) (u := none) (st := none) hs rfl (post_val_or_str ⟨Nat.le_trans (Txt.slice_le z _ _) hz,fin⟩)
    | int j uj => exact wpAny_getItem_str_slice (l := none) (u := some (j,uj)) (st := none) hs rfl (post_val_or_str ⟨Nat.le_trans (Txt.slice_le z _ _) hz,fin⟩)
  | int i ui =>
    cases pu with
    | none => exact wpAny_getItem_str_slice (l := some (i,ui)) (u := none) (st := none) hs rfl (post_val_or_str ⟨Nat.le_trans (Txt.slice_le z _ _) hz,fin⟩)
    | int j uj => exact wpAny_getItem_str_slice (l := some (i,ui)) (u := some (j,uj)) (st := none) hs rfl (post_val_or_str ⟨Nat.le_trans (Txt.slice_le z _ _) hz,fin⟩)
abbrev TOd := DS -> MH -> (Option Int -> MH -> Prop) -> Prop
def upO (K : PySem.W.Frag) (t : TOd) : TO := λ σ H Q => ∃ τ M Qd,Abs K H σ τ M /\ t τ M Qd /\ ∀ b H' M',Kp H H' -> MAbs K H' M' -> Qd b M' -> Q b H'
abbrev POd (X : Cx) (e : Option Expr) (t : TOd) : Prop := PO X e (upO X.K t)
theorem po_w {e : Option Expr} {t t' : TO} (h : PO X e t) (k : ∀ σ H Q,t' σ H Q -> t σ H Q) : PO X e t' := λ pins s σ H Q I q => h pins s σ H Q I (k σ H Q q)
def dNoPart (_ : DS) (M : MH) (Q : Option Int -> MH -> Prop) : Prop := Q none M
def dPart (t : TD) (τ : DS) (M : MH) (Q : Option Int -> MH -> Prop) : Prop := t τ M λ w M1 => ∃ i,w = .d (.int i) /\ Q (some i) M1
theorem pod_none : POd X none dNoPart := po_w po_none λ σ H Q ⟨τ,M,Qd,A,q,k⟩ => k none H M (Kp.refl H) A.mem q
theorem pod_some {e : Expr} {te : TD} (h : PD X e te) : POd X (some e) (dPart te) := po_w (po_some h) λ σ H Q ⟨τ,M,Qd,A,q,k⟩ => ⟨τ,M,_,A,q,λ v H1 w M1 kp r m hq41 => by
  obtain ⟨i,e,q1⟩ := hq41
  subst e
  simp only [RepW,RepD] at r
  exact ⟨i,r,k _ H1 M1 kp m q1⟩⟩
def cutD {α : Type} (xs : List α) (lo hi : Option Int) : List α := (xs.drop (HT.sIx xs.length 0 lo)).take (HT.sIx xs.length xs.length hi - HT.sIx xs.length 0 lo)
def wholeD (n : Nat) (lo hi : Option Int) : Bool := decide (HT.sIx n 0 lo = 0 /\ HT.sIx n n hi = n)
def slW : W -> Option Int -> Option Int -> Option W
  | .d (.list ds),lo,hi => some (.d (.list (cutD ds lo hi)))
  | .d (.tuple ds),lo,hi => if wholeD ds.length lo hi then none else some (.d (.tuple (cutD ds lo hi)))
  | .d (.str z),lo,hi => some (.d (.str (Txt.slice z lo hi)))
  | _,_,_ => none
def dSl (te : TD) (tl th : TOd) (τ : DS) (M : MH) (Q : QD) : Prop := te τ M λ w M1 => tl τ M1 λ lo M2 => th τ M2 λ hi M3 => ∃ z,slW w lo hi = some z /\ fitW w = true /\ Q z M3
theorem sl_any : SlR X (λ x lo hi H Q => rSlL X.K x lo hi H Q \/ rSlT X.K x lo hi H Q \/ rSlS x lo hi H Q) := sl_list.or (sl_tup.or sl_str)
theorem RepA.cut {H : Hp} {ds : List PyData} {vs : List V} (r : RepA K H ds vs) (lo hi : Option Int) : RepA K H (cutD ds lo hi) (cutV vs lo hi) := by
  unfold cutD cutV
  rw [r.length]
  exact (r.drop _).take _
theorem pd_slice {e : Expr} {te : TD} {lo hi : Option Expr} {tl th : TOd} {pos p2 : Pos} (he : PD X e te) (hl : POd X lo tl) (hu : POd X hi th) : PD X (.Subscript e (.Slice lo hi none p2) pos) (dSl te tl th) :=
  pe_w (pe_frzO (pe_slice sl_any he hl hu)) λ σ H Q h => by
    obtain ⟨τ,M,Qd,A,h,k⟩ := h
    refine ⟨τ,M,_,A,h,λ v H1 w M1 kp1 r1 m1 q1 => ⟨τ,M1,_,A.go kp1 m1,q1,λ lo H2 M2 kp2 m2 q2 => ⟨τ,M2,_,A.go (kp1.trans kp2) m2,q2,λ hi H3 M3 kp3 m3 q3 => ?_⟩⟩⟩
    obtain ⟨z,ez,hf,q⟩ := q3
    have kp := (kp1.trans kp2).trans kp3
    have r := r1.keep (kp2.trans kp3)
    cases w with
    | t n => simp [slW] at ez
    | m a => simp [slW] at ez
    | d d =>
      cases d with
      | list ds =>
        simp only [slW] at ez
        cases ez
        simp only [RepW,RepD] at r
        obtain ⟨a,vs,e1,hs,ra⟩ := r
        exact .inl ⟨a,vs,e1,hs.sq,λ p hp => .inr (imp_frz hp (RepA.cut ra lo hi) m3 q (kgo k kp))⟩
      | tuple ds =>
        simp only [slW] at ez
        split at ez
        · cases ez
        · rename_i hw
          cases ez
          simp only [RepW,RepD] at r
          obtain ⟨a,vs,e1,hs,ra⟩ := r
          refine .inr (.inl ⟨a,vs,e1,hs,?_,λ p hp => .inl ?_⟩)
          · rw [ra.length]
            simpa [wholeD] using hw
          · refine k _ _ (.d (.tuple _)) M3 (kp.trans (Kp.new hp)) ?_ (m3.new hp) q
            simp only [RepW,RepD]
            exact ⟨p,_,rfl,.inl (.inl upd_same),(RepA.cut ra lo hi).keep (Kp.new hp)⟩
      | str s =>
        simp only [slW] at ez
        cases ez
        simp only [RepW,RepD] at r
        exact .inr (.inr ⟨s,r,of_decide_eq_true hf,.inl (k _ H3 (.d (.str _)) M3 kp (by simp [RepW,RepD]) m3 q)⟩)
      | _ => simp [slW] at ez
def gSet (to ti : TD) (v : W) (τ : DS) (M : MH) (Q : DS -> MH -> Prop) : Prop := to τ M λ w M1 => ti τ M1 λ w' M2 => ∃ a ws i j,w = .m a /\ w' = .d (.int i) /\ M2 a = some (.lst ws) /\ ixN ws.length i = some j /\ Q τ (updM M2 a (.lst (ws.set j v)))
theorem set_rep {H : Hp} {M : MH} {a : Addr} {ws : List W} {vs : List V} {j : Nat} {v : V} {w : W} (m : MAbs K H M) (e : H a = some (.lst vs)) (rw1 : RepWs K H ws vs) (rv : RepW K H w v) :
    Kp H (upd H a (.lst (vs.set j v))) /\ MAbs K (upd H a (.lst (vs.set j v))) (updM M a (.lst (ws.set j w))) := by
  have kp : Kp H (upd H a (.lst (vs.set j v))) := Kp.set e (λ xs z => nomatch z) λ _ _ z => nomatch z
  exact ⟨kp,m.put kp ⟨_,upd_same,(RepWs.set rv j rw1).keep kp⟩⟩
theorem pgd_sub {o i : Expr} {to ti : TD} {pos : Pos} (ho : PD X o to) (hi : PD X i ti)
    (ha : ∀ v,assign (.Subscript o i pos) X.env v = (do
      let ov <- holding [v] (eval o X.env)
      let iv <- holding [v,ov] (eval i X.env)
      standAt pos
      holding [v,ov,iv] (setItem ov iv v)
      release [v,ov,iv] []) := by intro _; rfl) : PGd X (.Subscript o i pos) (gSet to ti) := pg_w (pg_sub ho hi set_list ha) λ v σ H Q h => by
  obtain ⟨w,τ,M,Qd,rv,A,h,k⟩ := h
  refine ⟨τ,M,_,A,h,λ x H1 wo M1 kp1 r1 m1 q1 => ⟨τ,M1,_,A.go kp1 m1,q1,λ y H2 wi M2 kp2 r2 m2 q2 => ?_⟩⟩
  obtain ⟨a,ws,i,j,e1,e2,hm,hj,q⟩ := q2
  subst e1; subst e2
  simp only [RepW,RepD] at r1 r2
  obtain ⟨vs,e3,rw1⟩ := m2 a _ hm
  have kp := kp1.trans kp2
  obtain ⟨kp3,m3⟩ := set_rep (j := j) m2 e3 rw1 (rv.keep kp)
  exact ⟨a,vs,i,j,r1,r2,e3,by rw [<- rw1.length]; exact hj,k σ _ τ _ (kp.trans kp3) (A.go (kp.trans kp3) m3) q⟩
theorem get_list : PGet X (rIxL X.K) := by
  intro pins s σ H o i ov iv Q I ro ri h
  obtain ⟨p,xs,k,z,rfl,rfl,hq,he,q⟩ := h
  cases ro
  obtain ⟨t,rfl⟩ := ri
  obtain ⟨its,r,pl,hz⟩ := I.list hq
  obtain ⟨j,h1,h2,h3,h4,h5⟩ := atI_get he
  obtain ⟨w,ew,rw'⟩ := r.get h2
  have hl := r.length
  have hn := line63
  have fin : EP X pins σ Q w s := ⟨z,H,I,rw',q⟩
  by_cases h0 : 0 <= k
  · have hj : k.toNat = j := by
      rw [seqIndex_of h0 h5] at h1
      exact Option.some.inj h1
    exact wpAny_getItem_list pl.isList h0 (by omega) (by rw [hj]; simpa using ew) fin
  · have hj : (k + (its.toArray.size : Int)).toNat = j := by
      rw [seqIndex_neg (by omega) h4] at h1
      rw [List.size_toArray,<- hl]
      exact Option.some.inj h1
    exact wpAny_getItem_list_neg pl.isList (by omega) (by rw [List.size_toArray] <;> omega) (by omega) (by rw [hj]; simpa using ew) fin
def dAugS (to ti te : TD) (f : Int -> Int -> Int) (D : Ed) (τ : DS) (M : MH) : Prop := to τ M λ w M1 => ti τ M1 λ w' M2 => ∃ a ws i j n,w = .m a /\ w' = .d (.int i) /\ M2 a = some (.lst ws) /\ ixN ws.length i = some j /\ ws[j]? = some (.d (.int n)) /\
  te τ M2 λ y M3 => ∃ n',y = .d (.int n') /\ M3 = M2 /\ D.nx τ (updM M3 a (.lst (ws.set j (.d (.int (f n n'))))))
theorem psd_augS {o i e : Expr} {to ti te : TD} {op : Operator} {f : Int -> Int -> Int} {pos tpos : Pos} (ho : PD X o to) (hi : PD X i ti) (he : PD X e te) (hp : PIp X op (ipI f))
    (ha : ∀ ov iv new,augStore i ov iv new = (do holding [new,ov,iv] (setItem ov iv new); release [new,ov,iv] []; pure .next) := by intros; rfl) : PSd X (.AugAssign (.Subscript o i tpos) op e pos) (dAugS to ti te f) :=
  ps_w (ps_augS ho hi get_list he hp set_list ha) λ D σ H h => by
    obtain ⟨τ,M,Dd,A,h,k1,_⟩ := h
    refine ⟨τ,M,_,A,h,λ x H1 wo M1 kp1 r1 m1 q1 => ⟨τ,M1,_,A.go kp1 m1,q1,λ y H2 wi M2 kp2 r2 m2 q2 => ?_⟩⟩
    obtain ⟨a,ws,i,j,n,e1,e2,hm,hj,hn,q⟩ := q2
    subst e1; subst e2
    simp only [RepW,RepD] at r1 r2
    obtain ⟨vs,e3,rw1⟩ := m2 a _ hm
    obtain ⟨v,e4,rv⟩ := rw1.get hn
    simp only [RepW,RepD] at rv
    have hj' : ixN vs.length i = some j := by rw [<- rw1.length]; exact hj
    refine ⟨a,vs,i,v,r1,r2,SqL.of e3,by unfold atI; rw [hj']; exact e4,?_⟩
    refine ⟨τ,M2,_,A.go (kp1.trans kp2) m2,q,λ z H3 wz M3 kp3 r3 m3 q3 => ?_⟩
    obtain ⟨n',e5,e6,qn⟩ := q3
    subst e5; subst e6
    simp only [RepW,RepD] at r3
    refine ⟨n,n',rv,r3,?_⟩
    obtain ⟨vs',e3',rw2⟩ := m3 a _ hm
    have kp := (kp1.trans kp2).trans kp3
    obtain ⟨kp4,m4⟩ := set_rep (j := j) (v := .int (f n n')) (w := .d (.int (f n n'))) m3 e3' rw2 (by simp [RepW,RepD])
    exact ⟨a,vs',i,j,r1,r2,e3',by rw [<- rw2.length]; exact hj,k1 σ _ τ _ (kp.trans kp4) (A.go (kp.trans kp4) m4) qn⟩
end
end D
set_option Elab.async false
set_option linter.all false
set_option maxRecDepth 100000
set_option maxHeartbeats 4000000
namespace D
open PySem PySem.Spec PyProof.Rows L2
section
variable {X : Cx} {K : PySem.W.Frag} {tg : Expr}
def Its (z : Str) : It := ⟨λ i _ => i < z.cps.size,λ i H x H' => H' = H /\ ∃ c,z.cps[i]? = some c /\ x = .str ⟨#[c]⟩,λ i _ => z.cps.size <= i⟩
theorem turn_str {P : Program} {w : World} {K : PySem.W.Frag} {tg : Expr} (it : Addr) (T : String) (z : Str) (t : Tok)
    (hT : ["enumerate", "zip", "dict_itemiterator", "dict_reverseitemiterator", "odict_iterator", "itertools.zip_longest", "itertools.pairwise"].contains T = false)
    (W : ∀ A : Around,A.handled = none -> Walks P w A it [it] [it] z.cps.size (SignAt z) (λ i h => h.IsStrIter it T z t i)) (hself : ∀ (A : Around) (i : Nat) (s : Shared) (Q : Value -> Shared -> Prop) (E : Value -> Shared -> Prop),s.heap.IsStrIter it T z t i -> Q (.ref it) s -> wpAny (model P w) A (pyIter (.ref it)) Q E s)
    (hend : ∀ (A : Around) (i : Nat) (s : Shared) (Q : Option Value -> Shared -> Prop) (E : Value -> Shared -> Prop),A.handled = none -> s.heap.IsStrIter it T z t i -> z.cps[i]? = none -> (∀ h',Heap.ExtBut it s.heap h' -> Q none { s with heap := h' }) -> wpAny (model P w) A (pyNext (.ref it)) Q E s) :
    Turn P w K tg (Its z) [it] it (λ i h => h.IsStrIter it T z t i) where
  mem := by simp
  obj := λ i h st b hb => by
    have e : b = it := by simpa using hb
    subst e
    obtain ⟨o,e,c,d⟩ := st
    exact ⟨o,e,λ v q => by rw [d] at q; cases q⟩
  keep := λ i h h' st k => by
    obtain ⟨o,e,r⟩ := st
    exact ⟨o,k it (by simp) o e,r⟩
  item := by
    intro X hP hw hK hc i pins s σ H E I hf st hg
    subst hP hw hK
    obtain ⟨f0,f1,f2,f3,f4,f5⟩ := hf it (by simp)
    refine (W X.A (I.ok.hd hc)).item i s _ _ hg st λ v h' tk hv st' kk => ?_
    obtain ⟨c,u,hc',rfl⟩ := hv
    have I1 : Inv X pins σ H { s with heap := h',toks := tk } := I.turned (λ b o hb e => kk b o (by simpa using hb) e) f0 f1 f3 f4 f5
    obtain ⟨o,e,cl,d⟩ := id st'
    exact ⟨_,rfl,go_of (s := { s with heap := h',toks := tk }) e cl d hT ⟨.str ⟨#[c]⟩,H,I1,⟨u,rfl⟩,⟨rfl,c,hc',rfl⟩,st',λ b hb => (hf b hb).1⟩⟩
  done := by
    intro X hP hw hK hc i pins s σ H E I hf st hg
    subst hP hw hK
    obtain ⟨f0,f1,f2,f3,f4,f5⟩ := hf it (by simp)
    have hn : z.cps.size <= i := hg
    exact hend X.A i s _ E (I.ok.hd hc) st (by simp [hn]) λ h' eb => ⟨rfl,I.turned (t' := s.toks) (λ b o hb e => eb b o hb e) f0 f1 f3 f4 f5⟩
  self := hself
section
variable {pins : List (Addr × Obj)} {σ : St} {H : Hp} {s : Shared} {R : It -> Hp -> Prop} {E : Value -> Shared -> Prop}
theorem it_str {z : Str} {t : Tok} (I : Inv X pins σ H s) (q : R (Its z) H) : wpAny (model X.prog X.w) X.A (pyIter (.str z t)) (PIE X pins σ tg R) E s := by
  cases ha : z.cps.all (· < 128)
  · refine wpAny_pyIter_wide ha ?_
    refine ⟨s.heap.objs.size,[s.heap.objs.size],_,_,H,rfl,I.kept (t' := s.toks) λ b o e => Heap.get?_push_of_some _ e,
      turn_str _ "str_iterator" z t (by decide) (λ A hA => Walks.strWide hA _ z t) (λ A i s Q E st h => wpAny_pyIter_striter_wide st h) (λ A i s Q E hh st hx hQ => wpAny_pyNext_wide_end hh st hx hQ),⟨_,Heap.get?_push_size _ rfl,rfl,rfl⟩,λ b hb => ?_,q⟩
    have e : b = s.heap.objs.size := by simpa using hb
    subst e
    exact I.fpOk (Nat.le_refl _) (I.hok.fresh (Nat.le_refl _))
  · refine wpAny_pyIter_ascii ha ?_
    refine ⟨s.heap.objs.size,[s.heap.objs.size],_,_,H,rfl,I.kept (t' := s.toks) λ b o e => Heap.get?_push_of_some _ e,
      turn_str _ "str_ascii_iterator" z t (by decide) (λ A hA => Walks.strAscii hA _ z t) (λ A i s Q E st h => wpAny_pyIter_striter_ascii st h) (λ A i s Q E hh st hx hQ => wpAny_pyNext_ascii_end hh st hx hQ),⟨_,Heap.get?_push_size _ rfl,rfl,rfl⟩,λ b hb => ?_,q⟩
    have e : b = s.heap.objs.size := by simpa using hb
    subst e
    exact I.fpOk (Nat.le_refl _) (I.hok.fresh (Nat.le_refl _))
theorem it_list {a : Addr} {xs : List V} (I : Inv X pins σ H s) (hq : SqL X.K H a xs) (q : R (Itl X.K a) H) : wpAny (model X.prog X.w) X.A (pyIter (.ref a)) (PIE X pins σ tg R) E s := by
  obtain ⟨its,rv,p,hz⟩ := I.list hq
  refine wpAny_pyIter_list p.isList ?_
  refine ⟨s.heap.objs.size,[s.heap.objs.size],_,_,H,rfl,I.kept (t' := s.toks) λ b o e => Heap.get?_push_of_some _ e,turn_list a _,⟨_,Heap.get?_push_size _ rfl,rfl,rfl⟩,λ b hb => ?_,q⟩
  have e : b = s.heap.objs.size := by simpa using hb
  subst e
  exact I.fpOk (Nat.le_refl _) (I.hok.fresh (Nat.le_refl _))
theorem it_tup {a : Addr} {xs : List V} (I : Inv X pins σ H s) (hq : SqT X.K H a xs) (q : R (Itt X.K a) H) : wpAny (model X.prog X.w) X.A (pyIter (.ref a)) (PIE X pins σ tg R) E s := by
  obtain ⟨its,rv,p,hz⟩ := I.tuple hq
  refine wpAny_pyIter_tuple (show s.heap.IsTuple a its.toArray from p) ?_
  refine ⟨s.heap.objs.size,[s.heap.objs.size],_,_,H,rfl,I.kept (t' := s.toks) λ b o e => Heap.get?_push_of_some _ e,turn_tuple a _,⟨_,Heap.get?_push_size _ rfl,rfl,rfl⟩,λ b hb => ?_,q⟩
  have e : b = s.heap.objs.size := by simpa using hb
  subst e
  exact I.fpOk (Nat.le_refl _) (I.hok.fresh (Nat.le_refl _))
end
def iAny (K : PySem.W.Frag) (tl : TE) : TI := λ σ H R => tl σ H λ x H1 => (∃ a xs,x = .ref a /\ SqL K H1 a xs /\ R (Itl K a) H1) \/ (∃ a xs,x = .ref a /\ SqT K H1 a xs /\ R (Itt K a) H1) \/ ∃ z,x = .str z /\ R (Its z) H1
theorem pi_any {l : Expr} {tl : TE} (hl : PE X l tl) : PI X tg l (iAny X.K tl) := by
  intro pins s σ H R I h
  refine thn (hl pins s σ H _ I h) λ v s1 hq42 => ?_
  obtain ⟨x,H1,I1,r1,q1⟩ := hq42
  rcases q1 with ⟨a,xs,e,hq,q⟩ | ⟨a,xs,e,hq,q⟩ | ⟨z,e,q⟩
  · subst e; cases r1; exact it_list I1 hq q
  · subst e; cases r1; exact it_tup I1 hq q
  · subst e; obtain ⟨t,rfl⟩ := r1; exact it_str I1 q

def ItD (K : PySem.W.Frag) (J : It) (H0 : Hp) (ws : List W) : Prop := ∀ H,Kp H0 H -> ∀ i : Nat,(i < ws.length -> J.go i H) /\ (ws.length <= i -> J.stop i H) /\
  ∀ x H',i < ws.length -> J.yld i H x H' -> Kp H H' /\ (∀ M,MAbs K H M -> MAbs K H' M) /\ ∃ w,ws[i]? = some w /\ RepW K H' w x
abbrev TId := DS -> MH -> (List W -> MH -> Prop) -> Prop
def upI (K : PySem.W.Frag) (t : TId) : TI := λ σ H R => ∃ τ M Rd,Abs K H σ τ M /\ t τ M Rd /\ ∀ J H' ws M',Kp H H' -> MAbs K H' M' -> ItD K J H' ws -> Rd ws M' -> R J H'
abbrev PId (X : Cx) (tg iter : Expr) (t : TId) : Prop := PI X tg iter (upI X.K t)
theorem pi_w {iter : Expr} {t t' : TI} (h : PI X tg iter t) (k : ∀ σ H R,t' σ H R -> t σ H R) : PI X tg iter t' := λ pins s σ H R I q => h pins s σ H R I (k σ H R q)
def itemsW : W -> Option (List W)
  | .d (.list ds) => some (ds.map W.d)
  | .d (.tuple ds) => some (ds.map W.d)
  | .d (.str z) => some (z.cps.toList.map λ c => W.d (.str ⟨#[c]⟩))
  | _ => none
def dItems (te : TD) (τ : DS) (M : MH) (R : List W -> MH -> Prop) : Prop := te τ M λ w M1 => ∃ ws,itemsW w = some ws /\ R ws M1
theorem itd_tup {H : Hp} {a : Addr} {vs : List V} {ds : List PyData} (hs : SqT K H a vs) (ra : RepA K H ds vs) : ItD K (Itt K a) H (ds.map W.d) := λ H1 kp i => by
  have hl := ra.length
  refine ⟨λ hi => ?_,λ hi => ⟨vs,SqT.keep kp hs,by rw [List.length_map] at hi; omega⟩,λ x H' hi y => ?_⟩
  · rw [List.length_map] at hi
    exact ⟨vs,vs[i]'(by omega),SqT.keep kp hs,by simp⟩
  · obtain ⟨e,y⟩ := y
    subst e
    have ev := y vs (SqT.keep kp hs)
    obtain ⟨d,e1,rd⟩ := (ra.keep kp).get' ev
    exact ⟨Kp.refl _,λ M m => m,.d d,by simp [e1],rd⟩
theorem itd_str {H : Hp} (z : Str) : ItD K (Its z) H (z.cps.toList.map λ c => W.d (.str ⟨#[c]⟩)) := λ H1 kp i => by
  refine ⟨λ hi => (show i < z.cps.size by simpa using hi),λ hi => (show z.cps.size <= i by simpa using hi),λ x H' hi y => ?_⟩
  obtain ⟨e,c,hc,ex⟩ := y
  subst e; subst ex
  exact ⟨Kp.refl _,λ M m => m,.d (.str ⟨#[c]⟩),by simp [hc],by simp [RepW,RepD]⟩
theorem itd_rng {H : Hp} (lo : Int) (n : Nat) : ItD K (Itr lo n) H ((List.range n).map λ i : Nat => W.d (.int (lo + (i : Int)))) := λ H1 kp i => by
  refine ⟨λ hi => (show i < n by simpa using hi),λ hi => (show n <= i by simpa using hi),λ x H' hi y => ?_⟩
  obtain ⟨e,ex⟩ := y
  subst e; subst ex
  simp at hi
  exact ⟨Kp.refl _,λ M m => m,.d (.int (lo + i)),by simp [hi],by simp [RepW,RepD]⟩
theorem pid_items {l : Expr} {te : TD} (h : PD X l te) : PId X tg l (dItems te) := pi_w (pi_any h) λ σ H R hq43 => by
  obtain ⟨τ,M,Rd,A,h,k⟩ := hq43
  refine ⟨τ,M,_,A,h,λ v H1 w M1 kp r m hq44 => ?_⟩
  obtain ⟨ws,e,q⟩ := hq44
  cases w with
  | t n => simp [itemsW] at e
  | m a => simp [itemsW] at e
  | d d =>
    cases d with
    | list ds =>
      simp only [itemsW] at e
      cases e
      simp only [RepW,RepD] at r
      obtain ⟨a,vs,e1,hs,ra⟩ := r
      refine .inl ⟨a,vs,e1,hs.sq,k _ H1 _ M1 kp m ?_ q⟩
      intro H2 kp2 i
      have hl := ra.length
      have hs2 := (hs.keep kp2).sq
      refine ⟨λ hi => ?_,λ hi => ⟨vs,hs2,by rw [List.length_map] at hi; omega⟩,λ x H' hi y => ?_⟩
      · rw [List.length_map] at hi
        exact ⟨vs,vs[i]'(by omega),hs2,by simp⟩
      · obtain ⟨e,y⟩ := y
        subst e
        have ev := y vs hs2
        obtain ⟨d,e1,rd⟩ := (ra.keep kp2).get' ev
        exact ⟨Kp.refl _,λ M m => m,.d d,by simp [e1],rd⟩
    | tuple ds =>
      simp only [itemsW] at e
      cases e
      simp only [RepW,RepD] at r
      obtain ⟨a,vs,e1,hs,ra⟩ := r
      exact .inr (.inl ⟨a,vs,e1,hs,k _ H1 _ M1 kp m (itd_tup hs ra) q⟩)
    | str z =>
      simp only [itemsW] at e
      cases e
      simp only [RepW,RepD] at r
      exact .inr (.inr ⟨z,r,k _ H1 _ M1 kp m (itd_str z) q⟩)
    | _ => simp [itemsW] at e
def rangeW (lo : Int) (n : Nat) : List W := (List.range n).map λ i : Nat => W.d (.int (lo + (i : Int)))
def dRng1 (ta : TAd) (τ : DS) (M : MH) (R : List W -> MH -> Prop) : Prop := ta τ M λ ws M1 => ∃ j : Int,ws = [.d (.int j)] /\ -(2 ^ 62) <= j /\ j < 2 ^ 62 /\ R (rangeW 0 j.toNat) M1
def dRng2 (ta : TAd) (τ : DS) (M : MH) (R : List W -> MH -> Prop) : Prop := ta τ M λ ws M1 => ∃ i j : Int,ws = [.d (.int i),.d (.int j)] /\ (-(2 ^ 62) <= i /\ i < 2 ^ 62 /\ -(2 ^ 62) <= j /\ j < 2 ^ 62) /\ R (rangeW i (j - i).toNat) M1
theorem repWs1 {H : Hp} {vs : List V} {w : W} (r : RepWs K H [w] vs) : ∃ v,vs = [v] /\ RepW K H w v := by
  cases r with
  | cons r1 r2 => cases r2; exact ⟨_,rfl,r1⟩
theorem repWs2 {H : Hp} {vs : List V} {w w' : W} (r : RepWs K H [w,w'] vs) : ∃ v v',vs = [v,v'] /\ RepW K H w v /\ RepW K H w' v' := by
  cases r with
  | cons r1 r2 =>
    cases r2 with
    | cons r3 r4 => cases r4; exact ⟨_,_,rfl,r1,r3⟩
theorem pid_range1 {a : Expr} {ta : TAd} {p pos : Pos} (hg : Gl X "range") (hm : X.mg "range" = none) (ha : PAd X [a] ta) (hs : starEach [a] X.env = [(false,eval a X.env)] := by rfl) : PId X tg (.Call (.Name "range" p) [a] [] pos) (dRng1 ta) :=
  pi_w (pi_range1 hg hm ha hs) λ σ H R ⟨τ,M,Rd,A,h,k⟩ => ⟨τ,M,_,A,h,λ vs H1 ws M1 kp r m hq45 => by
    obtain ⟨j,e,h1,h2,q⟩ := hq45
    subst e
    obtain ⟨v,e1,r1⟩ := repWs1 r
    simp only [RepW,RepD] at r1
    subst r1
    exact ⟨j,e1,h1,h2,k _ H1 _ M1 kp m (itd_rng 0 j.toNat) q⟩⟩
theorem pid_range2 {a b : Expr} {ta : TAd} {p pos : Pos} (hg : Gl X "range") (hm : X.mg "range" = none) (ha : PAd X [a,b] ta) (hs : starEach [a,b] X.env = [(false,eval a X.env),(false,eval b X.env)] := by rfl) (hs2 : starEach [b] X.env = [(false,eval b X.env)] := by rfl) :
    PId X tg (.Call (.Name "range" p) [a,b] [] pos) (dRng2 ta) :=
  pi_w (pi_range2 hg hm ha hs hs2) λ σ H R ⟨τ,M,Rd,A,h,k⟩ => ⟨τ,M,_,A,h,λ vs H1 ws M1 kp r m hq46 => by
    obtain ⟨i,j,e,h1,q⟩ := hq46
    subst e
    obtain ⟨v,v',e1,r1,r2⟩ := repWs2 r
    simp only [RepW,RepD] at r1 r2
    subst r1; subst r2
    exact ⟨i,j,e1,h1,k _ H1 _ M1 kp m (itd_rng i _) q⟩⟩

def dFor (di : TId) (g : TGd) (tb : TSd) (D : Ed) (τ : DS) (M : MH) : Prop := di τ M λ ws M1 => ∃ P : Nat -> DS -> MH -> Prop,P 0 τ M1 /\
  (∀ i w τ M,ws[i]? = some w -> P i τ M -> g w τ M λ τ2 M2 => tb { D with nx := P (i + 1),ct := P (i + 1),bk := D.nx } τ2 M2) /\ ∀ τ M,P ws.length τ M -> D.nx τ M
theorem psd_for {iter : Expr} {body : List Stmt} {di : TId} {g : TGd} {tb : TSd} {pos : Pos} (hp : PassesOwn (model X.prog X.w) X.A X.env X.xe) (hc : X.calm = true) (hi : PId X tg iter di) (hg : PGd X tg g) (hb : PSsd X body tb)
    (hs : ∀ x,foldedSetIterable iter X.env x = pure x := by intro _; rfl) : PSd X (.For tg iter body [] pos) (dFor di g tb) := ps_w (ps_for hp hc hi hg hb hs) λ D σ H hq47 => by
  obtain ⟨τ,M,Dd,A,h,k1,k2,k3,k4⟩ := hq47
  refine ⟨τ,M,_,A,h,λ J H1 ws M1 kp m1 it hq48 => ?_⟩
  obtain ⟨P,p0,pt,pe⟩ := hq48
  refine ⟨λ i n σ H' => n = ws.length - i /\ i <= ws.length /\ Kp H1 H' /\ ∃ τ M,Abs X.K H' σ τ M /\ P i τ M,⟨ws.length,by simp,Nat.zero_le _,Kp.refl _,τ,M1,A.go kp m1,p0⟩,?_⟩
  rintro i n σ2 H2 ⟨rfl,hi,kp2,τ2,M2,A2,p2⟩
  obtain ⟨go,stop,yld⟩ := it H2 kp2 i
  by_cases hlt : i < ws.length
  · refine .inr ⟨go hlt,λ σ3 H3 => Kp H2 H3 /\ ∃ τ M,Abs X.K H3 σ3 τ M /\ P (i + 1) τ M,λ σ3 H3 ⟨kp3,τ3,M3,A3,p3⟩ => ⟨ws.length - (i + 1),by omega,rfl,hlt,kp2.trans kp3,τ3,M3,A3,p3⟩,λ x H3 y => ?_⟩
    obtain ⟨kp3,mk,w,ew,rw⟩ := yld x H3 hlt y
    refine ⟨w,τ2,M2,_,rw,A2.go kp3 (mk _ A2.mem),pt i w τ2 M2 ew p2,λ σ4 H4 τ4 M4 kp4 A4 q4 => ?_⟩
    have kq := kp3.trans kp4
    have kr := (kp.trans kp2).trans kq
    exact ⟨τ4,M4,_,A4,q4,λ σ5 H5 τ5 M5 kp5 A5 q5 => ⟨kq.trans kp5,τ5,M5,A5,q5⟩,λ v H5 w M5 kp5 => k2 v H5 w M5 (kr.trans kp5),λ σ5 H5 τ5 M5 kp5 => k1 σ5 H5 τ5 M5 (kr.trans kp5),λ σ5 H5 τ5 M5 kp5 A5 q5 => ⟨kq.trans kp5,τ5,M5,A5,q5⟩⟩
  · have hl : i = ws.length := by omega
    subst hl
    exact .inl ⟨stop (Nat.le_refl _),k1 σ2 H2 τ2 M2 (kp.trans kp2) A2 (pe τ2 M2 p2)⟩
def lcSD (k : Nat) (fr : List Nat) (τ : DS) : DS := List.replicate k none ++ fr.map λ j => (τ[j]?).getD none
theorem abs_lc {H : Hp} {σ : St} {τ : DS} {M : MH} (A : Abs K H σ τ M) (k : Nat) (fr : List Nat) : Abs K H (lcS k fr σ) (lcSD k fr τ) M := by
  refine ⟨by simp [lcS,lcSD],λ i w e => ?_,A.mem⟩
  unfold lcSD at e
  by_cases hi : i < k
  · rw [List.getElem?_append_left (by simpa using hi),List.getElem?_replicate] at e
    split at e <;> cases e
  · rw [List.getElem?_append_right (by simpa using hi),List.getElem?_map,List.length_replicate] at e
    cases q : fr[i - k]? with
    | none => rw [q] at e; cases e
    | some j =>
      rw [q] at e
      have e' : (τ[j]?).getD none = some w := Option.some.inj e
      have e2 : τ[j]? = some (some w) := by
        cases z : τ[j]? with
        | none => rw [z] at e'; cases e'
        | some o => rw [z] at e'; exact congrArg some e'
      obtain ⟨v,q1,r⟩ := A.val j w e2
      refine ⟨v,?_,r⟩
      unfold lcS
      rw [List.getElem?_append_right (by simpa using hi),List.getElem?_map,List.length_replicate,q]
      simp [q1]
def dLC (di : TId) (g : TGd) (tt : TTd) (te : TD) (k : Nat) (fr : List Nat) (τ : DS) (M : MH) (Q : QD) : Prop := di τ M λ ws M1 => ∃ P : Nat -> List PyData -> DS -> MH -> Prop,P 0 [] (lcSD k fr τ) M1 /\
  (∀ i w acc τ M,ws[i]? = some w -> P i acc τ M -> acc.length < sizeLine /\ g w τ M λ τ2 M2 => tt τ2 M2 λ b M3 => if b = true then te τ2 M3 λ y M4 => ∃ d,y = .d d /\ P (i + 1) (acc ++ [d]) τ2 M4 else P (i + 1) acc τ2 M3) /\
  ∀ acc τ M,P ws.length acc τ M -> Q (.d (.list acc)) M
theorem imp_lc {di : TId} {g : TGd} {tt : TTd} {te : TD} {k : Nat} {fr : List Nat} {σ : St} {H : Hp} {Q : VK} (h : up K (dLC di g tt te k fr) σ H Q) :
    tFrz (tLC (upI K di) (upG K g) (upT K tt) (up K te) k fr) σ H Q := by
  obtain ⟨τ,M,Qd,A,h,kk⟩ := h
  refine ⟨τ,M,_,A,h,λ J H1 ws M1 kp m1 it hq49 => ?_⟩
  obtain ⟨P,p0,pt,pe⟩ := hq49
  refine ⟨λ i n ys σ' H' => n = ws.length - i /\ i <= ws.length /\ Kp H1 H' /\ ∃ acc τ M,RepA K H' acc ys /\ Abs K H' σ' τ M /\ P i acc τ M,⟨ws.length,by simp,Nat.zero_le _,Kp.refl _,[],_,M1,by simp [RepA],abs_lc (A.go kp m1) k fr,p0⟩,?_⟩
  rintro i n ys σ2 H2 ⟨rfl,hi,kp2,acc,τ2,M2,ra,A2,p2⟩
  obtain ⟨go,stop,yld⟩ := it H2 kp2 i
  by_cases hlt : i < ws.length
  · have hlen := ra.length
    refine .inr ⟨go hlt,?_,λ x H3 y => ?_⟩
    · obtain ⟨w,hw⟩ : ∃ w,ws[i]? = some w := ⟨ws[i],by simp [hlt]⟩
      have := (pt i w acc τ2 M2 hw p2).1
      omega
    obtain ⟨kp3,mk,w,ew,rw⟩ := yld x H3 hlt y
    refine ⟨w,τ2,M2,_,rw,A2.go kp3 (mk _ A2.mem),(pt i w acc τ2 M2 ew p2).2,λ σ4 H4 τ4 M4 kp4 A4 q4 => ⟨τ4,M4,_,A4,q4,λ b H5 M5 kp5 m5 q5 => ?_⟩⟩
    have kq := (kp3.trans kp4).trans kp5
    cases b with
    | false =>
      rw [if_neg Bool.false_ne_true] at q5
      show (if false = true then _ else _)
      rw [if_neg Bool.false_ne_true]
      exact ⟨ws.length - (i + 1),by omega,rfl,hlt,kp2.trans kq,acc,τ4,M5,ra.keep kq,A4.go kp5 m5,q5⟩
    | true =>
      rw [if_pos rfl] at q5
      show (if true = true then _ else _)
      rw [if_pos rfl]
      refine ⟨τ4,M5,_,A4.go kp5 m5,q5,λ v H6 wv M6 kp6 r6 m6 hq50 => ?_⟩
      obtain ⟨d,e6,q6⟩ := hq50
      subst e6
      refine ⟨ws.length - (i + 1),by omega,rfl,hlt,kp2.trans (kq.trans kp6),acc ++ [d],τ4,M6,RepA.append (ra.keep (kq.trans kp6)) ?_,A4.go (kp5.trans kp6) m6,q6⟩
      simp only [RepA]
      exact ⟨v,[],rfl,r6,rfl⟩
  · have hl : i = ws.length := by omega
    subst hl
    exact .inl ⟨stop (Nat.le_refl _),λ p hp => imp_frz hp ra A2.mem (pe acc τ2 M2 p2) (kgo kk (kp.trans kp2))⟩
section
variable {sc : Scope} {own : List Str} {fr : List Nat} {elt iter : Expr} {ifs : List Expr} {pos : Pos} {di : TId} {g : TGd} {tt : TTd} {te : TD}
abbrev PTsd (X : Cx) (ifs : List Expr) (t : TTd) : Prop := PTs X ifs (upT X.K t)
def dYes (_ : DS) (M : MH) (Q : Bool -> MH -> Prop) : Prop := Q true M
theorem ptsd_nil : PTsd X [] dYes := λ pins s σ H Q I ⟨τ,M,Qd,A,q,k⟩ => pts_nil pins s σ H Q I (k true H M (Kp.refl H) A.mem q)
theorem ptsd_one {c : Expr} {t : TTd} (h : PTd X c t) : PTsd X [c] t := pts_one h
theorem pd_lc (hc : X.calm = true) (L : LcOk X sc own fr) (hi : PId X tg iter di)
    (hg : ∀ cl C s H ex pl,PGd (blk X sc (lcN X own fr) cl C s H ex pl) tg g) (ht : ∀ cl C s H ex pl,PTsd (blk X sc (lcN X own fr) cl C s H ex pl) ifs tt) (he : ∀ cl C s H ex pl,PD (blk X sc (lcN X own fr) cl C s H ex pl) elt te)
    (hs : ∀ x,foldedSetIterable iter X.env x = pure x := by intro _; rfl) : PD X (.ListComp elt [⟨tg,iter,ifs,0⟩] sc pos) (dLC di g tt te own.length fr) :=
  pe_w (pe_frz (pe_lc hc L hi hg ht he hs)) λ σ H Q h => imp_lc h
theorem ps_frz {st : Stmt} {t : TS} (h : PS X st t) : PS X st (λ D σ H => t { D with nx := λ σ' H' => ∃ p u,H' p = some u /\ Fz u /\ ∀ o,D.nx σ' (upd H' p (.frz o u)) } σ H) := by
  intro pins s σ H D I hq
  refine thn (h pins s σ H _ I hq) λ f s1 q => ?_
  cases f with
  | next =>
    obtain ⟨σ',H',I',p,u,e,fz,q⟩ := q
    obtain ⟨o,I2⟩ := I'.freeze e fz
    exact ⟨σ',_,I2,q o⟩
  | brk => exact q
  | cont => exact q
  | ret v => exact q
theorem psd_setLC {i : Nat} {x : Str} {pos' spos : Pos} (hN : X.N.Nodup) (hi' : X.N[i]? = some x) (hx : Loc X.env.scope x) (hc : X.calm = true) (L : LcOk X sc own fr) (hi : PId X tg iter di)
    (hg : ∀ cl C s H ex pl,PGd (blk X sc (lcN X own fr) cl C s H ex pl) tg g) (ht : ∀ cl C s H ex pl,PTsd (blk X sc (lcN X own fr) cl C s H ex pl) ifs tt) (he : ∀ cl C s H ex pl,PD (blk X sc (lcN X own fr) cl C s H ex pl) elt te)
    (hsw : swapsWith (.ListComp elt [⟨tg,iter,ifs,0⟩] sc pos) (some (.Name x pos')) spos.line X.env = pure true := by rfl)
    (hs : ∀ x,foldedSetIterable iter X.env x = pure x := by intro _; rfl) (hf : X.fn x = true \/ X.env.scope.names.lookup x = some .local := by first | exact .inl rfl | exact .inr rfl | assumption) :
    PSd X (.Assign [.Name x pos'] (.ListComp elt [⟨tg,iter,ifs,0⟩] sc pos) spos) (dAsg (dLC di g tt te own.length fr) (gN i)) := ps_w (ps_frz (ps_setLC hN hi' hx hc L hi hg ht he hsw hs hf)) λ D σ H hq51 => by
  obtain ⟨τ,M,Dd,A,h,k1,_⟩ := hq51
  have z : up X.K (dLC di g tt te own.length fr) σ H (λ v H' => D.nx (σ.set i (some v)) H') := ⟨τ,M,_,A,h,λ v H1 w M1 kp r m q => k1 _ H1 _ M1 kp ((A.go kp m).set i r) q⟩
  obtain ⟨τ',M',R',A',h',k'⟩ := imp_lc z
  refine ⟨τ',M',R',A',h',λ J H1 ws M1 kp m1 it q => ?_⟩
  obtain ⟨W,w0,st⟩ := k' J H1 ws M1 kp m1 it q
  refine ⟨W,w0,λ i m ys τ H w => ?_⟩
  rcases st i m ys τ H w with ⟨s1,s2⟩ | r
  · refine .inl ⟨s1,λ p hp => ?_⟩
    obtain ⟨p',u,e1,e2,f,q⟩ := s2 p hp
    cases e1
    exact ⟨p,u,e2,f,q⟩
  · exact .inr r
end
end
end D
set_option Elab.async false
set_option linter.all false
set_option maxRecDepth 100000
set_option maxHeartbeats 4000000
namespace D
open PySem PySem.Spec PyProof.Rows L2
section
variable {X : Cx} {K : PySem.W.Frag}
def rdAbs (ws : List W) (M : MH) (Q : QD) : Prop := ∃ i : Int,ws = [.d (.int i)] /\ Q (.d (.int (if i < 0 then -i else i))) M
theorem cd_abs : CallD K (λ xs H Q => ∃ i,xs = [.int i] /\ Q (.int (if i < 0 then -i else i)) H) rdAbs := by
  intro vs H ws M Qd Q r m ⟨i,e,q⟩ k
  subst e
  obtain ⟨v,e1,r1⟩ := repWs1 r
  simp only [RepW,RepD] at r1
  subst r1
  exact ⟨i,e1,k _ H (.d (.int _)) M (Kp.refl H) (by simp [RepW,RepD]) m q⟩
def lenW (M : MH) : W -> Option Nat
  | .d (.list ds) => some ds.length
  | .d (.tuple ds) => some ds.length
  | .d (.str z) => some z.length
  | .m a => match M a with
    | some (.lst ws) => some ws.length
    | _ => none
  | _ => none
def rdLen (ws : List W) (M : MH) (Q : QD) : Prop := ∃ w n,ws = [w] /\ lenW M w = some n /\ fitW w = true /\ Q (.d (.int (n : Nat))) M
theorem cd_len : CallD K (λ xs H Q => ∃ x n,xs = [x] /\ LenV K x H n /\ Q (.int n) H) rdLen := by
  intro vs H ws M Qd Q r m ⟨w,n,e,hn,hf,q⟩ k
  subst e
  obtain ⟨v,e1,r1⟩ := repWs1 r
  refine ⟨v,n,e1,?_,k _ H (.d (.int _)) M (Kp.refl H) (by simp [RepW,RepD]) m q⟩
  cases w with
  | t _ => simp [lenW] at hn
  | m a =>
    simp only [RepW] at r1
    subst r1
    simp only [lenW] at hn
    cases hm : M a with
    | none => rw [hm] at hn; cases hn
    | some mo =>
      rw [hm] at hn
      cases mo with
      | lst l => cases hn; obtain ⟨us,e2,rw1⟩ := m a _ hm; exact .inl ⟨us,SqL.of e2,rw1.length⟩
      | dic _ => cases hn
      | dct _ => cases hn
      | fdic _ => cases hn
      | ins _ _ => cases hn
      | tup _ => cases hn
      | flst _ => cases hn
      | exc _ _ => cases hn
  | d d =>
    cases d with
    | list ds => simp only [lenW] at hn; cases hn; simp only [RepW,RepD] at r1; obtain ⟨a,us,e2,hs,ra⟩ := r1; subst e2; exact .inl ⟨us,hs.sq,ra.length.symm⟩
    | tuple ds => simp only [lenW] at hn; cases hn; simp only [RepW,RepD] at r1; obtain ⟨a,us,e2,hs,ra⟩ := r1; subst e2; exact .inr ⟨us,hs,ra.length.symm⟩
    | str z => simp only [lenW] at hn; cases hn; simp only [RepW,RepD] at r1; subst r1; exact ⟨of_decide_eq_true hf,rfl⟩
    | _ => simp [lenW] at hn
theorem key_rep {H : Hp} {key : Key} {v : V} (r : RepD K H (keyD key) v) : v = kV key := by
  cases key <;> (simp only [keyD,RepD] at r; exact r)
end
end D
set_option Elab.async false
set_option linter.all false
set_option maxRecDepth 100000
set_option maxHeartbeats 4000000
namespace D
open PySem PySem.Spec PyProof.Rows L2
structure Fn (K : PySem.W.Frag) (mg : Str -> Option Value) (x : Str) (st : Stmt) (ps : List Str) (f : Addr) (fd : FuncData) : Prop where
  fn : Fun K x x st f fd
  mg : mg x = some (.ref f)
  bd : Binds K fd ps []
section
variable {K : PySem.W.Frag} {mg : Str -> Option Value} {h : Heap}
theorem fn_mk {x : Str} {st : Stmt} {ps : List Str} {f : Addr} {oc : Value} {od an : Option Addr} {osl : Array (Option Value)} {kV doc pm cdv ct : Value} (X : K.In h) (G : h.Ns mainGlobals mg) (a : PySem.W.nsIn K mainGlobals x = some (some (.ref f)))
    (l : K.lookup f = some ⟨oc,od,.func (PySem.W.fnOf x x (defArgs st) (defBody st) (defScope st) .none kV doc pm an cdv ct),osl⟩) (c : PySem.W.codeIn K cdv x = true) (k : PySem.W.keepIn K (.ref f) = true)
    (b : ∀ (kV doc pm : Value) (an : Option Addr) (cdv ct : Value) (us : List Value),us.length = ps.length -> bindArgs (PySem.W.fnOf x x (defArgs st) (defBody st) (defScope st) .none kV doc pm an cdv ct) ⟨us,[]⟩ = pure (ps.zip us)) :
    Fn K mg x st ps f (PySem.W.fnOf x x (defArgs st) (defBody st) (defScope st) .none kV doc pm an cdv ct) :=
  have F := fun_mk (st := st) l c k
  ⟨F,PySem.W.mg_of X G a,F.binds b⟩
end
def lcOkB (sc scX : Scope) (N : List Str) (fr : List Nat) : Bool :=
  (sc.kind == .function) && sc.names.all (λ y => !(y.2 == .cell)) && sc.names.all (λ y => !(y.2 == .free) || scX.names.lookup y.1 == some .cell || scX.names.lookup y.1 == some .free) &&
    sc.names.all (λ y => !(y.2 == .local) || sc.names.lookup y.1 == some .local) && frOk N sc fr
theorem lcOk {X : Cx} {sc : Scope} {own : List Str} {fr : List Nat} (h : lcOkB sc X.env.scope X.N fr = true) : LcOk X sc own fr := by
  simp only [lcOkB,Bool.and_eq_true] at h
  obtain ⟨⟨⟨⟨h1,h2⟩,h3⟩,h4⟩,h5⟩ := h
  refine ⟨eq_of_beq h1,λ y hy e => ?_,λ y hy e => ?_,λ y hy e => ?_,h5⟩
  · have := List.all_eq_true.mp h2 y hy
    simp [e] at this
  · have := List.all_eq_true.mp h3 y hy
    simp only [e,beq_self_eq_true,Bool.not_true,Bool.false_or,Bool.or_eq_true] at this
    rcases this with z | z
    · exact .inl (eq_of_beq z)
    · exact .inr (eq_of_beq z)
  · have := List.all_eq_true.mp h4 y hy
    simp only [e,beq_self_eq_true,Bool.not_true,Bool.false_or] at this
    exact eq_of_beq this
theorem bt_list : bootBuiltins "list" = some (.type "list") := by decide +kernel
theorem bt_tuple : bootBuiltins "tuple" = some (.type "tuple") := by decide +kernel
theorem bt_dict : bootBuiltins "dict" = some (.type "dict") := by decide +kernel
theorem bb_len : bootBuiltins "len" = some (.builtin "len") := by decide +kernel
theorem bb_abs : bootBuiltins "abs" = some (.builtin "abs") := by decide +kernel
theorem bb_repr : bootBuiltins "repr" = some (.builtin "repr") := by decide +kernel
end D
set_option Elab.async false
set_option linter.all false
set_option maxRecDepth 100000
set_option maxHeartbeats 4000000
namespace D
open PySem PySem.Spec PyProof.Rows L2
def isSt : Expr -> Bool
  | .Starred .. => true
  | _ => false
theorem star_ok (e : Expr) (es : List Expr) (env : PySem.Env) (h : isSt e = false) : starEach (e :: es) env = (false,eval e env) :: starEach es env := by
  cases e <;> first | rfl | (exact absurd h (by simp [isSt]))
theorem plain_ok (pos : Pos) (env : PySem.Env) : ∀ es : List Expr,(es.all λ e => !isSt e) = true -> (backTo pos (starEach es env)).any (·.1) = false
  | [],_ => rfl
  | e :: es,h => by
    rw [List.all_cons,Bool.and_eq_true,Bool.not_eq_true'] at h
    rw [star_ok e es env h.1]
    show (false || (backTo pos (starEach es env)).any (·.1)) = false
    rw [plain_ok pos env es h.2]
    rfl
section
variable {X : Cx} {pos p : Pos} {e : Expr} {es : List Expr} {te : TD} {t : TAd} {x : Str} {id T : String} {r : List V -> Hp -> VK -> Prop} {rd : List W -> MH -> QD -> Prop} {k : Nat} {f : Addr} {fd : FuncData} {ps : List Str} {sp : SpD}
theorem pac (ha : PD X e te) (hr : PAd X es t) (h : isSt e = false := by rfl) : PAd X (e :: es) (dCons te t) := pad_cons ha hr (star_ok e es X.env h)
theorem pcB (hc : CallR X (.builtin id) r) (hd : CallD X.K r rd) (hg : Gl X x) (hm : X.mg x = none) (hv : bootBuiltins x = some (.builtin id)) (ha : PAd X (e :: es) t) (hn : x ≠ "__name__" := by decide) (hdb : (x == ("__debug__" : Str)) = false := by decide)
    (h1 : isSt e = false := by rfl) (h2 : (es.all λ e => !isSt e) = true := by rfl) : PD X (.Call (.Name x p) (e :: es) [] pos) (dCB rd t) := pd_callB hc hd hg hm hv ha hn hdb (star_ok e es X.env h1) (plain_ok pos X.env es h2)
theorem pcF (F : FnOk X.prog X.w X.K X.mg X.base CX0 k f fd ps (upSp X.K sp)) (hr : Room k X.A) (hg : Gl X x) (hm : X.mg x = some (.ref f)) (hk : PySem.W.keepIn X.K (.ref f) = true) (hb : Binds X.K fd ps [])
    (ha : PAd X (e :: es) t) (hdb : (x == ("__debug__" : Str)) = false := by decide) (h1 : isSt e = false := by rfl) (h2 : (es.all λ e => !isSt e) = true := by rfl) :
    PD X (.Call (.Name x p) (e :: es) [] pos) (dCall sp t) := pd_call F hr hg hm hk hb ha hdb (star_ok e es X.env h1) (plain_ok pos X.env es h2)
end
end D
set_option Elab.async false
set_option linter.all false
set_option maxRecDepth 100000
set_option maxHeartbeats 4000000
namespace D
open PySem PySem.Spec PyProof.Rows L2
structure Jd (p : Prop) : Prop where
  h : p
namespace Q
abbrev pm (K : PySem.W.Frag) (p : TD × TD) : TE × TE := (up K p.1,up K p.2)
section
variable {X : Cx} {pos : Pos} {a b c e : Expr} {ta tb tc te : TD} {K : PySem.W.Frag}
theorem dv (i : Nat) {x : Str} {pos : Pos} (hN : X.N[i]? = some x := by rfl) (hv : Vis X.env.scope x := by first | exact Or.inl rfl | exact Or.inr (Or.inl rfl) | exact Or.inr (Or.inr rfl)) (hd : (x == ("__debug__" : Str)) = false := by decide) (hcd : (x == ("__classdict__" : Str)) = false := by decide) : Jd (PD X (.Name x pos) (dVar i)) := ⟨D.dv (i := i) (hN := hN) (hv := hv) (hd := hd) (hcd := hcd)⟩
theorem pd_int {i j pos} : Jd (PD X (.Constant (.int i) j pos) (dC (.d (.int i)))) := ⟨D.pd_int ⟩
theorem pd_bl {b j pos} : Jd (PD X (.Constant (.bool b) j pos) (dC (.d (.bool b)))) := ⟨D.pd_bl ⟩
theorem pd_non {j pos} : Jd (PD X (.Constant .none j pos) (dC (.d .none))) := ⟨D.pd_non ⟩
theorem pd_str {x j pos} : Jd (PD X (.Constant (.str x) j pos) (dC (.d (.str x)))) := ⟨D.pd_str ⟩
theorem pd_op {op : Operator} {r : R2} {rd : W -> W -> MH -> QD -> Prop} (ho : OpR X (binaryOp op) r) (hd : OpD X.K r rd) (ha : Jd (PD X a ta)) (hb : Jd (PD X b tb)) : Jd (PD X (.BinOp a op b pos) (dOp rd ta tb)) := ⟨D.pd_op (ho := ho) (hd := hd) (ha := ha.h) (hb := hb.h)⟩
theorem pd_cmp {op : CmpOp} {r : R2} {rd : W -> W -> MH -> QD -> Prop} (ho : OpR X (compareOp op) r) (hd : OpD X.K r rd) (ha : Jd (PD X a ta)) (hb : Jd (PD X b tb)) (hm : behindInMarks op b = false := by first | exact nobehind _ (by decide) (by decide) | rfl) : Jd (PD X (.Compare a [op] [b] pos) (dOp rd ta tb)) := ⟨D.pd_cmp (ho := ho) (hd := hd) (ha := ha.h) (hb := hb.h) (hm := hm)⟩
theorem pd_ix {r : R2} {rd : W -> W -> MH -> QD -> Prop} (hr : IxR X r) (hd : OpD X.K r rd) (ha : Jd (PD X a ta)) (hb : Jd (PD X b tb)) (hs : PlainIx b := by intro _ _; rfl) : Jd (PD X (.Subscript a b pos) (dOp rd ta tb)) := ⟨D.pd_ix (hr := hr) (hd := hd) (ha := ha.h) (hb := hb.h) (hs := hs)⟩
theorem ptd_cmp {op : CmpOp} {r : R2} {rd : W -> W -> MH -> QD -> Prop} (ho : OpR X (compareOp op) r) (hd : OpD X.K r rd) (ha : Jd (PD X a ta)) (hb : Jd (PD X b tb)) (hm : behindInMarks op b = false := by first | exact nobehind _ (by decide) (by decide) | rfl) : Jd (PTd X (.Compare a [op] [b] pos) (dTest (dOp rd ta tb))) := ⟨D.ptd_cmp (ho := ho) (hd := hd) (ha := ha.h) (hb := hb.h) (hm := hm)⟩
theorem ptd_val (h : Jd (PD X e te)) (he : ∀ whole,isTrue e X.env whole = (do let v <- whole; standAt e.pos; holding [v] (truthy v)) := by intro _; rfl) : Jd (PTd X e (dTest te)) := ⟨D.ptd_val (h := h.h) (he := he)⟩
theorem pd_un {op : UnaryOp} {r : V -> Hp -> VK -> Prop} {rd : W -> MH -> QD -> Prop} (ho : UnR X (unaryOp op) r) (hd : UnD X.K r rd) (ha : Jd (PD X a ta)) : Jd (PD X (.UnaryOp op a pos) (dUn rd ta)) := ⟨D.pd_un (ho := ho) (hd := hd) (ha := ha.h)⟩
variable {tA tB : TTd} {rest : List Expr}
theorem pwd_and1 (ha : Jd (PTd X a tA)) : Jd (PWd X (.BoolOp .And [a] pos) tA) := ⟨D.pwd_and1 (ha := ha.h)⟩
theorem pwd_or1 (ha : Jd (PTd X a tA)) : Jd (PWd X (.BoolOp .Or [a] pos) tA) := ⟨D.pwd_or1 (ha := ha.h)⟩
theorem pwd_and (ha : Jd (PTd X a tA)) (hb : Jd (PWd X (.BoolOp .And (b :: rest) pos) tB)) : Jd (PWd X (.BoolOp .And (a :: b :: rest) pos) (dAnd tA tB)) := ⟨D.pwd_and (ha := ha.h) (hb := hb.h)⟩
theorem pwd_or (ha : Jd (PTd X a tA)) (hb : Jd (PWd X (.BoolOp .Or (b :: rest) pos) tB)) : Jd (PWd X (.BoolOp .Or (a :: b :: rest) pos) (dOr tA tB)) := ⟨D.pwd_or (ha := ha.h) (hb := hb.h)⟩
theorem ptd_w (h : Jd (PWd X e tA)) : Jd (PTd X e tA) := ⟨D.ptd_w (h := h.h)⟩
theorem ptd_not (ha : Jd (PTd X a tA)) : Jd (PTd X (.UnaryOp .Not a pos) (dNot tA)) := ⟨D.ptd_not (ha := ha.h)⟩
theorem pd_one {op} (h : Jd (PD X a ta)) : Jd (PD X (.BoolOp op [a] pos) ta) := ⟨D.pd_one (h := h.h)⟩
theorem pd_and (ha : Jd (PD X a ta)) (hb : Jd (PD X (.BoolOp .And (b :: rest) pos) tb)) : Jd (PD X (.BoolOp .And (a :: b :: rest) pos) (dAndV ta tb)) := ⟨D.pd_and (ha := ha.h) (hb := hb.h)⟩
variable {es : List Expr} {t : TAd}
theorem pad_nil  : Jd (PAd X [] dNil) := ⟨D.pad_nil ⟩
theorem pd_lst (h : Jd (PAd X es t)) : Jd (PD X (.List es pos) (dLst t)) := ⟨D.pd_lst (h := h.h)⟩
theorem pd_lstM (h : Jd (PAd X es t)) : Jd (PD X (.List es pos) (dLstM t)) := ⟨D.pd_lstM (h := h.h)⟩
theorem pd_tup {x1} (h : Jd (PAd X es t)) : Jd (PD X (.Tuple es x1 pos) (dTup t)) := ⟨D.pd_tup (h := h.h)⟩
variable {x : Str} {p : Pos} {id T : String} {r : List V -> Hp -> VK -> Prop} {rd : List W -> MH -> QD -> Prop}
end
section
variable {X : Cx} {pos : Pos} {st : Stmt} {sts : List Stmt} {t u : TSd} {e : Expr} {te : TD} {K : PySem.W.Frag}
theorem pssd_nil  : Jd (PSsd X [] dNext) := ⟨D.pssd_nil ⟩
theorem pssd_cons (h1 : Jd (PSd X st t)) (h2 : Jd (PSsd X sts u)) : Jd (PSsd X (st :: sts) (dSeq t u)) := ⟨D.pssd_cons (h1 := h1.h) (h2 := h2.h)⟩
theorem pssd_one (h1 : Jd (PSd X st t)) : Jd (PSsd X [st] t) := ⟨D.pssd_one (h1 := h1.h)⟩
theorem psd_expr (he : Jd (PD X e te)) (hs : swapsWith e none pos.line X.env = pure false := by rfl) : Jd (PSd X (.Expr e pos) (dDrop te)) := ⟨D.psd_expr (he := he.h) (hs := hs)⟩
theorem psd_ret (he : Jd (PD X e te)) : Jd (PSd X (.Return (some e) pos) (dRet te)) := ⟨D.psd_ret (he := he.h)⟩
theorem psd_if {c : Expr} {a b : List Stmt} {tc : TTd} (hc : Jd (PTd X c tc)) (ha : Jd (PSsd X a t)) (hb : Jd (PSsd X b u)) : Jd (PSd X (.If c a b pos) (dIf tc t u)) := ⟨D.psd_if (hc := hc.h) (ha := ha.h) (hb := hb.h)⟩
theorem pgd_name {i : Nat} {x : Str} (hN : X.N.Nodup) (hi : X.N[i]? = some x) (hx : Loc X.env.scope x) (hf : X.fn x = true \/ X.env.scope.names.lookup x = some .local := by first | exact .inl rfl | exact .inr rfl | assumption) : Jd (PGd X (.Name x pos) (gN i)) := ⟨D.pgd_name (hN := hN) (hi := hi) (hx := hx) (hf := hf)⟩
theorem psd_asg {tg : Expr} {g : TGd} (he : Jd (PD X e te)) (hg : Jd (PGd X tg g)) (hs : swapsWithSole [tg] e pos.line X.env = pure false := by rfl) (hw : swappedStores [tg] e X.env = pure none := by rfl) (h1 : (assignEach [tg] X.env).map (·.2) = [assign tg X.env] := by rfl) : Jd (PSd X (.Assign [tg] e pos) (dAsg te g)) := ⟨D.psd_asg (he := he.h) (hg := hg.h) (hs := hs) (hw := hw) (h1 := h1)⟩
theorem psd_set {i : Nat} {x : Str} {pos' : Pos} (hN : X.N.Nodup) (hi : X.N[i]? = some x) (hx : Loc X.env.scope x) (he : Jd (PD X e te)) (hs : swapsWith e (some (.Name x pos')) pos.line X.env = pure false := by rfl) (hf : X.fn x = true \/ X.env.scope.names.lookup x = some .local := by first | exact .inl rfl | exact .inr rfl | assumption) : Jd (PSd X (.Assign [.Name x pos'] e pos) (dAsg te (gN i))) := ⟨D.psd_set (hN := hN) (hi := hi) (hx := hx) (he := he.h) (hs := hs) (hf := hf)⟩
end
section
variable {X : Cx} {pos p : Pos} {k : Nat} {f : Addr} {fd : FuncData} {ps : List Str} {sp : SpD} {x : Str} {e : Expr} {es : List Expr} {t : TAd}
end
section
variable {P : Program} {w : World} {K : PySem.W.Frag} {mg : Str -> Option Value} {base : Heap}
end
section
variable {X : Cx} {K : PySem.W.Frag}
theorem pod_none  : Jd (POd X none dNoPart) := ⟨D.pod_none ⟩
theorem pod_some {e : Expr} {te : TD} (h : Jd (PD X e te)) : Jd (POd X (some e) (dPart te)) := ⟨D.pod_some (h := h.h)⟩
theorem pd_slice {e : Expr} {te : TD} {lo hi : Option Expr} {tl th : TOd} {pos p2 : Pos} (he : Jd (PD X e te)) (hl : Jd (POd X lo tl)) (hu : Jd (POd X hi th)) : Jd (PD X (.Subscript e (.Slice lo hi none p2) pos) (dSl te tl th)) := ⟨D.pd_slice (he := he.h) (hl := hl.h) (hu := hu.h)⟩
theorem pgd_sub {o i : Expr} {to ti : TD} {pos : Pos} (ho : Jd (PD X o to)) (hi : Jd (PD X i ti)) (ha : ∀ v,assign (.Subscript o i pos) X.env v = (do
      let ov <- holding [v] (eval o X.env)
      let iv <- holding [v,ov] (eval i X.env)
      standAt pos
      holding [v,ov,iv] (setItem ov iv v)
      release [v,ov,iv] []) := by intro _; rfl) : Jd (PGd X (.Subscript o i pos) (gSet to ti)) := ⟨D.pgd_sub (ho := ho.h) (hi := hi.h) (ha := ha)⟩
theorem psd_augS {o i e : Expr} {to ti te : TD} {op : Operator} {f : Int -> Int -> Int} {pos tpos : Pos} (ho : Jd (PD X o to)) (hi : Jd (PD X i ti)) (he : Jd (PD X e te)) (hp : PIp X op (ipI f)) (ha : ∀ ov iv new,augStore i ov iv new = (do holding [new,ov,iv] (setItem ov iv new); release [new,ov,iv] []; pure .next) := by intros; rfl) : Jd (PSd X (.AugAssign (.Subscript o i tpos) op e pos) (dAugS to ti te f)) := ⟨D.psd_augS (ho := ho.h) (hi := hi.h) (he := he.h) (hp := hp) (ha := ha)⟩
end
section
variable {X : Cx} {K : PySem.W.Frag} {tg : Expr}
section
variable {pins : List (Addr × Obj)} {σ : St} {H : Hp} {s : Shared} {R : It -> Hp -> Prop} {E : Value -> Shared -> Prop}
end
theorem pid_items {l : Expr} {te : TD} (h : Jd (PD X l te)) : Jd (PId X tg l (dItems te)) := ⟨D.pid_items (h := h.h)⟩
theorem pid_range1 {a : Expr} {ta : TAd} {p pos : Pos} (hg : Gl X "range") (hm : X.mg "range" = none) (ha : Jd (PAd X [a] ta)) (hs : starEach [a] X.env = [(false,eval a X.env)] := by rfl) : Jd (PId X tg (.Call (.Name "range" p) [a] [] pos) (dRng1 ta)) := ⟨D.pid_range1 (hg := hg) (hm := hm) (ha := ha.h) (hs := hs)⟩
theorem pid_range2 {a b : Expr} {ta : TAd} {p pos : Pos} (hg : Gl X "range") (hm : X.mg "range" = none) (ha : Jd (PAd X [a,b] ta)) (hs : starEach [a,b] X.env = [(false,eval a X.env),(false,eval b X.env)] := by rfl) (hs2 : starEach [b] X.env = [(false,eval b X.env)] := by rfl) : Jd (PId X tg (.Call (.Name "range" p) [a,b] [] pos) (dRng2 ta)) := ⟨D.pid_range2 (hg := hg) (hm := hm) (ha := ha.h) (hs := hs) (hs2 := hs2)⟩
theorem psd_for {iter : Expr} {body : List Stmt} {di : TId} {g : TGd} {tb : TSd} {pos : Pos} (hp : PassesOwn (model X.prog X.w) X.A X.env X.xe) (hc : X.calm = true) (hi : Jd (PId X tg iter di)) (hg : Jd (PGd X tg g)) (hb : Jd (PSsd X body tb)) (hs : ∀ x,foldedSetIterable iter X.env x = pure x := by intro _; rfl) : Jd (PSd X (.For tg iter body [] pos) (dFor di g tb)) := ⟨D.psd_for (hp := hp) (hc := hc) (hi := hi.h) (hg := hg.h) (hb := hb.h) (hs := hs)⟩
section
variable {sc : Scope} {own : List Str} {fr : List Nat} {elt iter : Expr} {ifs : List Expr} {pos : Pos} {di : TId} {g : TGd} {tt : TTd} {te : TD}
theorem ptsd_nil  : Jd (PTsd X [] dYes) := ⟨D.ptsd_nil ⟩
theorem ptsd_one {c : Expr} {t : TTd} (h : Jd (PTd X c t)) : Jd (PTsd X [c] t) := ⟨D.ptsd_one (h := h.h)⟩
theorem pd_lc (hc : X.calm = true) (L : LcOk X sc own fr) (hi : Jd (PId X tg iter di)) (hg : ∀ cl C s H ex pl,Jd (PGd (blk X sc (lcN X own fr) cl C s H ex pl) tg g)) (ht : ∀ cl C s H ex pl,Jd (PTsd (blk X sc (lcN X own fr) cl C s H ex pl) ifs tt)) (he : ∀ cl C s H ex pl,Jd (PD (blk X sc (lcN X own fr) cl C s H ex pl) elt te)) (hs : ∀ x,foldedSetIterable iter X.env x = pure x := by intro _; rfl) : Jd (PD X (.ListComp elt [⟨tg,iter,ifs,0⟩] sc pos) (dLC di g tt te own.length fr)) := ⟨D.pd_lc (hc := hc) (L := L) (hi := hi.h) (hg := λ cl C s H ex pl => (hg cl C s H ex pl).h) (ht := λ cl C s H ex pl => (ht cl C s H ex pl).h) (he := λ cl C s H ex pl => (he cl C s H ex pl).h) (hs := hs)⟩
theorem psd_setLC {i : Nat} {x : Str} {pos' spos : Pos} (hN : X.N.Nodup) (hi' : X.N[i]? = some x) (hx : Loc X.env.scope x) (hc : X.calm = true) (L : LcOk X sc own fr) (hi : Jd (PId X tg iter di)) (hg : ∀ cl C s H ex pl,Jd (PGd (blk X sc (lcN X own fr) cl C s H ex pl) tg g)) (ht : ∀ cl C s H ex pl,Jd (PTsd (blk X sc (lcN X own fr) cl C s H ex pl) ifs tt)) (he : ∀ cl C s H ex pl,Jd (PD (blk X sc (lcN X own fr) cl C s H ex pl) elt te)) (hsw : swapsWith (.ListComp elt [⟨tg,iter,ifs,0⟩] sc pos) (some (.Name x pos')) spos.line X.env = pure true := by rfl) (hs : ∀ x,foldedSetIterable iter X.env x = pure x := by intro _; rfl) (hf : X.fn x = true \/ X.env.scope.names.lookup x = some .local := by first | exact .inl rfl | exact .inr rfl | assumption) : Jd (PSd X (.Assign [.Name x pos'] (.ListComp elt [⟨tg,iter,ifs,0⟩] sc pos) spos) (dAsg (dLC di g tt te own.length fr) (gN i))) := ⟨D.psd_setLC (hN := hN) (hi' := hi') (hx := hx) (hc := hc) (L := L) (hi := hi.h) (hg := λ cl C s H ex pl => (hg cl C s H ex pl).h) (ht := λ cl C s H ex pl => (ht cl C s H ex pl).h) (he := λ cl C s H ex pl => (he cl C s H ex pl).h) (hsw := hsw) (hs := hs) (hf := hf)⟩
end
end
section
variable {X : Cx} {K : PySem.W.Frag}
end
section
variable {X : Cx} {pos p : Pos} {e : Expr} {es : List Expr} {te : TD} {t : TAd} {x : Str} {id T : String} {r : List V -> Hp -> VK -> Prop} {rd : List W -> MH -> QD -> Prop} {k : Nat} {f : Addr} {fd : FuncData} {ps : List Str} {sp : SpD}
theorem pac (ha : Jd (PD X e te)) (hr : Jd (PAd X es t)) (h : isSt e = false := by rfl) : Jd (PAd X (e :: es) (dCons te t)) := ⟨D.pac (ha := ha.h) (hr := hr.h) (h := h)⟩
theorem pcB (hc : CallR X (.builtin id) r) (hd : CallD X.K r rd) (hg : Gl X x) (hm : X.mg x = none) (hv : bootBuiltins x = some (.builtin id)) (ha : Jd (PAd X (e :: es) t)) (hn : x ≠ "__name__" := by decide) (hdb : (x == ("__debug__" : Str)) = false := by decide) (h1 : isSt e = false := by rfl) (h2 : (es.all λ e => !isSt e) = true := by rfl) : Jd (PD X (.Call (.Name x p) (e :: es) [] pos) (dCB rd t)) := ⟨D.pcB (hc := hc) (hd := hd) (hg := hg) (hm := hm) (hv := hv) (ha := ha.h) (hn := hn) (hdb := hdb) (h1 := h1) (h2 := h2)⟩
theorem pcF (F : FnOk X.prog X.w X.K X.mg X.base CX0 k f fd ps (upSp X.K sp)) (hr : Room k X.A) (hg : Gl X x) (hm : X.mg x = some (.ref f)) (hk : PySem.W.keepIn X.K (.ref f) = true) (hb : Binds X.K fd ps []) (ha : Jd (PAd X (e :: es) t)) (hdb : (x == ("__debug__" : Str)) = false := by decide) (h1 : isSt e = false := by rfl) (h2 : (es.all λ e => !isSt e) = true := by rfl) : Jd (PD X (.Call (.Name x p) (e :: es) [] pos) (dCall sp t)) := ⟨D.pcF (F := F) (hr := hr) (hg := hg) (hm := hm) (hk := hk) (hb := hb) (ha := ha.h) (hdb := hdb) (h1 := h1) (h2 := h2)⟩
end
end Q
end D
set_option Elab.async false
set_option linter.all false
set_option maxRecDepth 100000
set_option maxHeartbeats 4000000
namespace D
open PySem PySem.Spec PyProof.Rows L2
@[simp] theorem eqOk2_int (i j : Int) : eqOk2 (.int i) (.int j) = true := rfl
@[simp] theorem eqOk2_str (x y : Str) : eqOk2 (.str x) (.str y) = true := rfl
@[simp] theorem eqOk2_bool (x y : Bool) : eqOk2 (.bool x) (.bool y) = true := rfl
@[simp] theorem eqv_int (i j : Int) : PyData.eqv (.int i) (.int j) = (i == j) := by rw [PyData.eqv]
@[simp] theorem eqv_str (i j : Str) : PyData.eqv (.str i) (.str j) = (i == j) := by rw [PyData.eqv]
@[simp] theorem fitW_m (a : Addr) : fitW (.m a) = true := rfl
@[simp] theorem fitW_list (ds : List PyData) : fitW (.d (.list ds)) = true := rfl
@[simp] theorem fitW_tuple (ds : List PyData) : fitW (.d (.tuple ds)) = true := rfl
@[simp] theorem ixN_zero (n : Nat) : ixN (n + 1) 0 = some 0 := by unfold ixN; simp
theorem atI_nn {α : Type} {xs : List α} {i : Int} (h0 : 0 <= i) (h1 : i < xs.length) : atI xs i = some (xs[i.toNat]'(by omega)) := by
  unfold atI ixN
  rw [if_pos h0,if_pos h1]
  simp
def Bag (M : MH) (p : Addr) : Prop := ∃ (a b c : Int) (ns : List Int),M p = some (.lst [.d (.int a),.d (.int b),.d (.int c),.d (.list (ns.map PyData.int))]) /\ 0 <= a /\ 0 <= b /\ b < 2147483647 /\ 0 <= c /\ (∀ n ∈ ns,0 <= n)
def sp_l_bag : SpD := λ ws M Q => ∃ ns : List Int,ws = [.d (.list (ns.map PyData.int))] /\ ns.length <= 1000 /\ ∀ p M',M p = none -> (∀ q,q ≠ p -> M' q = M q) -> Bag M' p -> Q (.m p) M'
def sp_l_take : SpD := λ ws M Q => ∃ (p : Addr) (n : Int),ws = [.m p,.d (.int n)] /\ Bag M p /\ 0 < n /\ n < 1073741824 /\ ∀ (r : Int) M',0 <= r -> r < n -> Bag M' p -> (∀ q,q ≠ p -> M' q = M q) -> Q (.d (.int r)) M'
theorem len_l_bag : ∀ ws M Q,sp_l_bag ws M Q -> ws.length = 1 := by rintro ws M Q ⟨ns,rfl,_⟩; rfl
theorem len_l_take : ∀ ws M Q,sp_l_take ws M Q -> ws.length = 2 := by rintro ws M Q ⟨p,n,rfl,_⟩; rfl
theorem ixN_nat {n : Nat} {i : Int} (h0 : 0 <= i) (h1 : i < n) : ixN n i = some i.toNat := by unfold ixN; rw [if_pos h0,if_pos h1]
theorem ix_m {M : MH} {p : Addr} {ws : List W} {i : Int} {x : W} (hm : M p = some (.lst ws)) (h : atI ws i = some x) : ixW M (.m p) i = some x := by
  simp only [ixW,hm]; exact h
theorem ite_b {c : Bool} {A B : Prop} (h1 : c = true -> A) (h2 : c = false -> B) : if c = true then A else B := by
  cases c with
  | true => rw [if_pos rfl]; exact h1 rfl
  | false => rw [if_neg Bool.false_ne_true]; exact h2 rfl
end D
set_option Elab.async false
set_option linter.all false
set_option maxRecDepth 100000
set_option maxHeartbeats 4000000
namespace D
open PySem PySem.Spec PyProof.Rows L2
abbrev N_l_bag : List Str := ["_law_script"]
def t_l_bag : TSd :=
    dRet (dLstM (dCons (dC (.d (.int 0))) (dCons (dC (.d (.int 1234567891))) (dCons (dC (.d (.int 0))) (dCons (dLC (dItems (dSl (dVar 0) (dNoPart) (dPart (dC (.d (.int 63)))))) (gN 0) (dYes) (dCB rdAbs (dCons (dVar 0) (dNil))) 1 []) (dNil))))))

abbrev N_l_take : List Str := ["_law_bag_here", "_law_many", "_law_cell", "_law_value", "_law_first", "_law_second"]
def t_l_take : TSd :=
    dSeq (dIf (dTest (dOp rdEq (dOp rdIx (dVar 0) (dC (.d (.int 0)))) (dC (.d (.int 0)))))
      (dSeq (dAsg (dC (.d (.int 0))) (gN 2)) <|
      dSeq (dIf (dTest (dOp rdLt (dOp rdIx (dVar 0) (dC (.d (.int 2)))) (dCB rdLen (dCons (dOp rdIx (dVar 0) (dC (.d (.int 3)))) (dNil)))))
        (dAsg (dOp rdIx (dOp rdIx (dVar 0) (dC (.d (.int 3)))) (dOp rdIx (dVar 0) (dC (.d (.int 2))))) (gN 2))
        (dNext)) <|
      dSeq (dAugS (dVar 0) (dC (.d (.int 2))) (dC (.d (.int 1))) (λ i j => i + j)) <|
      dSeq (dIf (dTest (dOp rdGe (dVar 2) (dC (.d (.int 1000000000000000000)))))
        (dAsg (dVar 2) (gSet (dVar 0) (dC (.d (.int 0)))))
        (dNext)) <|
      dAsg (dOp rdMod (dOp rdAdd (dOp rdAdd (dOp rdMul (dOp rdIx (dVar 0) (dC (.d (.int 1)))) (dC (.d (.int 48271)))) (dOp rdMod (dVar 2) (dC (.d (.int 2147483647))))) (dOp rdMul (dC (.d (.int 7919))) (dOp rdIx (dVar 0) (dC (.d (.int 2)))))) (dC (.d (.int 2147483647)))) (gSet (dVar 0) (dC (.d (.int 1)))))
      (dNext)) <|
    dSeq (dIf (dTest (dOp rdGt (dOp rdIx (dVar 0) (dC (.d (.int 0)))) (dC (.d (.int 0)))))
      (dSeq (dAsg (dOp rdMod (dOp rdIx (dVar 0) (dC (.d (.int 0)))) (dVar 1)) (gN 3)) <|
      dSeq (dAsg (dOp rdDiv (dOp rdIx (dVar 0) (dC (.d (.int 0)))) (dVar 1)) (gSet (dVar 0) (dC (.d (.int 0))))) <|
      dRet (dVar 3))
      (dNext)) <|
    dSeq (dAsg (dOp rdMod (dOp rdMul (dOp rdAdd (dOp rdIx (dVar 0) (dC (.d (.int 1)))) (dC (.d (.int 1)))) (dC (.d (.int 39373)))) (dC (.d (.int 1000000007)))) (gN 4)) <|
    dSeq (dAsg (dOp rdMod (dOp rdMul (dOp rdMod (dOp rdMul (dVar 4) (dVar 4)) (dC (.d (.int 998244353)))) (dC (.d (.int 30011)))) (dC (.d (.int 998244353)))) (gN 5)) <|
    dSeq (dIf (dTest (dOp rdGt (dVar 1) (dC (.d (.int 1000000)))))
      (dRet (dOp rdMod (dOp rdAdd (dOp rdMul (dVar 5) (dC (.d (.int 1000000007)))) (dVar 4)) (dVar 1)))
      (dNext)) <|
    dRet (dOp rdMod (dOp rdDiv (dVar 5) (dC (.d (.int 7)))) (dVar 1))

abbrev bagL (a b c : Int) (ns : List Int) : List W := [.d (.int a),.d (.int b),.d (.int c),.d (.list (ns.map PyData.int))]
theorem read_take2 {M : MH} {Q : QD} {p : Addr} {n : Int} {a b c : Int} {ns : List Int} {x : Option W} (hm : M p = some (.lst (bagL a b c ns))) (ha : 0 <= a) (hb : 0 <= b) (hb2 : b < 2147483647) (hc : 0 <= c) (hns : ∀ n ∈ ns,0 <= n) (hn : 0 < n) (hn2 : n < 1073741824)
    (k : ∀ (r : Int) M',0 <= r -> r < n -> Bag M' p -> (∀ q,q ≠ p -> M' q = M q) -> Q (.d (.int r)) M') {D : Ed} (hD : D.rt = Q) :
    (dSeq (dIf (dTest (dOp rdGt (dOp rdIx (dVar 0) (dC (.d (.int 0)))) (dC (.d (.int 0)))))
      (dSeq (dAsg (dOp rdMod (dOp rdIx (dVar 0) (dC (.d (.int 0)))) (dVar 1)) (gN 3)) <|
      dSeq (dAsg (dOp rdDiv (dOp rdIx (dVar 0) (dC (.d (.int 0)))) (dVar 1)) (gSet (dVar 0) (dC (.d (.int 0))))) <|
      dRet (dVar 3))
      (dNext)) <|
    dSeq (dAsg (dOp rdMod (dOp rdMul (dOp rdAdd (dOp rdIx (dVar 0) (dC (.d (.int 1)))) (dC (.d (.int 1)))) (dC (.d (.int 39373)))) (dC (.d (.int 1000000007)))) (gN 4)) <|
    dSeq (dAsg (dOp rdMod (dOp rdMul (dOp rdMod (dOp rdMul (dVar 4) (dVar 4)) (dC (.d (.int 998244353)))) (dC (.d (.int 30011)))) (dC (.d (.int 998244353)))) (gN 5)) <|
    dSeq (dIf (dTest (dOp rdGt (dVar 1) (dC (.d (.int 1000000)))))
      (dRet (dOp rdMod (dOp rdAdd (dOp rdMul (dVar 5) (dC (.d (.int 1000000007)))) (dVar 4)) (dVar 1)))
      (dNext)) <|
    dRet (dOp rdMod (dOp rdDiv (dVar 5) (dC (.d (.int 7)))) (dVar 1))) D [some (.m p),some (.d (.int n)),x,none,none,none] M := by
  subst hD
  have i0 : ixW M (.m p) 0 = some (.d (.int a)) := ix_m hm rfl
  have i1 : ixW M (.m p) 1 = some (.d (.int b)) := ix_m hm rfl
  have same : Bag M p := ⟨a,b,c,ns,hm,ha,hb,hb2,hc,hns⟩
  refine ⟨_,rfl,_,_,rfl,i0,rfl,_,_,rfl,rfl,_,rfl,?_⟩
  refine ite_b (λ h => ?_) (λ h => ?_)
  · have h0 : 0 < a := of_decide_eq_true h
    refine ⟨_,rfl,_,_,rfl,i0,rfl,_,rfl,_,_,rfl,rfl,hn,?_⟩
    refine ⟨_,rfl,_,_,rfl,i0,rfl,_,rfl,_,_,rfl,rfl,⟨hn,hn2⟩,?_⟩
    refine ⟨_,rfl,_,_,_,_,rfl,rfl,hm,rfl,?_⟩
    refine ⟨_,rfl,?_⟩
    refine k _ _ (Int.emod_nonneg _ (by omega)) (Int.emod_lt_of_pos _ hn) ⟨a / n,b,c,ns,updM_same,Int.ediv_nonneg ha (by omega),hb,hb2,hc,hns⟩ λ q hq => updM_ne hq
  · refine ⟨_,rfl,_,_,rfl,i1,rfl,.inl ?_⟩
    refine ⟨_,_,rfl,rfl,_,_,rfl,rfl,.inl ⟨by omega,by omega⟩,_,_,rfl,rfl,(by decide : (0 : Int) < 1000000007),?_⟩
    have f0 : 0 <= (b + 1) * 39373 % 1000000007 := Int.emod_nonneg _ (by decide)
    have f1 : (b + 1) * 39373 % 1000000007 < 1000000007 := Int.emod_lt_of_pos _ (by decide)
    refine ⟨_,rfl,_,rfl,_,_,rfl,rfl,.inl ⟨by omega,by omega⟩,_,_,rfl,rfl,(by decide : (0 : Int) < 998244353),?_⟩
    have g0 : 0 <= (b + 1) * 39373 % 1000000007 * ((b + 1) * 39373 % 1000000007) % 998244353 := Int.emod_nonneg _ (by decide)
    have g1 : (b + 1) * 39373 % 1000000007 * ((b + 1) * 39373 % 1000000007) % 998244353 < 998244353 := Int.emod_lt_of_pos _ (by decide)
    refine ⟨_,_,rfl,rfl,.inl ⟨by omega,by omega⟩,_,_,rfl,rfl,(by decide : (0 : Int) < 998244353),?_⟩
    have e0 : 0 <= (b + 1) * 39373 % 1000000007 * ((b + 1) * 39373 % 1000000007) % 998244353 * 30011 % 998244353 := Int.emod_nonneg _ (by decide)
    have e1 : (b + 1) * 39373 % 1000000007 * ((b + 1) * 39373 % 1000000007) % 998244353 * 30011 % 998244353 < 998244353 := Int.emod_lt_of_pos _ (by decide)
    refine ⟨_,rfl,_,_,rfl,rfl,_,rfl,?_⟩
    refine ite_b (λ h => ?_) (λ h => ?_)
    · refine ⟨_,rfl,_,_,rfl,rfl,.inl ⟨by omega,by omega⟩,_,rfl,.inl ⟨_,_,rfl,rfl,_,rfl,_,_,rfl,rfl,hn,?_⟩⟩
      exact k _ _ (Int.emod_nonneg _ (by omega)) (Int.emod_lt_of_pos _ hn) same λ q _ => rfl
    · refine ⟨_,rfl,_,_,rfl,rfl,⟨by decide,by decide⟩,_,rfl,_,_,rfl,rfl,hn,?_⟩
      exact k _ _ (Int.emod_nonneg _ (by omega)) (Int.emod_lt_of_pos _ hn) same λ q _ => rfl
theorem read_take1 {M : MH} {p : Addr} {n cell : Int} {a b c : Int} {ns : List Int} {D : Ed} (hm : M p = some (.lst (bagL a b c ns))) (ha : 0 <= a) (hb : 0 <= b) (hb2 : b < 2147483647) (hc : 0 <= c) (hcell : 0 <= cell)
    (k : ∀ a' b' c' M',0 <= a' -> 0 <= b' -> b' < 2147483647 -> 0 <= c' -> M' p = some (.lst (bagL a' b' c' ns)) -> (∀ q,q ≠ p -> M' q = M q) -> D.nx [some (.m p),some (.d (.int n)),some (.d (.int cell)),none,none,none] M') :
    (dSeq (dAugS (dVar 0) (dC (.d (.int 2))) (dC (.d (.int 1))) (λ i j => i + j)) <|
      dSeq (dIf (dTest (dOp rdGe (dVar 2) (dC (.d (.int 1000000000000000000)))))
        (dAsg (dVar 2) (gSet (dVar 0) (dC (.d (.int 0)))))
        (dNext)) <|
      dAsg (dOp rdMod (dOp rdAdd (dOp rdAdd (dOp rdMul (dOp rdIx (dVar 0) (dC (.d (.int 1)))) (dC (.d (.int 48271)))) (dOp rdMod (dVar 2) (dC (.d (.int 2147483647))))) (dOp rdMul (dC (.d (.int 7919))) (dOp rdIx (dVar 0) (dC (.d (.int 2)))))) (dC (.d (.int 2147483647)))) (gSet (dVar 0) (dC (.d (.int 1)))))
      D [some (.m p),some (.d (.int n)),some (.d (.int cell)),none,none,none] M := by
  refine ⟨_,rfl,_,_,_,_,_,rfl,rfl,hm,rfl,rfl,_,rfl,rfl,?_⟩
  have m1 : updM M p (.lst (bagL a b (c + 1) ns)) p = some (.lst (bagL a b (c + 1) ns)) := updM_same
  have f1 : ∀ q,q ≠ p -> updM M p (.lst (bagL a b (c + 1) ns)) q = M q := λ q hq => updM_ne hq
  show (dSeq _ _) D _ (updM M p (.lst (bagL a b (c + 1) ns)))
  generalize updM M p (.lst (bagL a b (c + 1) ns)) = M1 at m1 f1
  have fin : ∀ (a' : Int) (M2 : MH),0 <= a' -> M2 p = some (.lst (bagL a' b (c + 1) ns)) -> (∀ q,q ≠ p -> M2 q = M q) ->
      dAsg (dOp rdMod (dOp rdAdd (dOp rdAdd (dOp rdMul (dOp rdIx (dVar 0) (dC (.d (.int 1)))) (dC (.d (.int 48271)))) (dOp rdMod (dVar 2) (dC (.d (.int 2147483647))))) (dOp rdMul (dC (.d (.int 7919))) (dOp rdIx (dVar 0) (dC (.d (.int 2)))))) (dC (.d (.int 2147483647)))) (gSet (dVar 0) (dC (.d (.int 1)))) D [some (.m p),some (.d (.int n)),some (.d (.int cell)),none,none,none] M2 := by
    intro a' M2 ha' m2 f2
    have i1 : ixW M2 (.m p) 1 = some (.d (.int b)) := ix_m m2 rfl
    have i2 : ixW M2 (.m p) 2 = some (.d (.int (c + 1))) := ix_m m2 rfl
    refine ⟨_,rfl,_,_,rfl,i1,rfl,_,_,rfl,rfl,.inl ⟨by omega,by omega⟩,_,rfl,_,_,rfl,rfl,(by decide : (0 : Int) < 2147483647),.inl ?_⟩
    refine ⟨_,_,rfl,rfl,_,rfl,_,_,rfl,i2,rfl,_,_,rfl,rfl,.inl ⟨by decide,by decide⟩,.inl ?_⟩
    refine ⟨_,_,rfl,rfl,_,_,rfl,rfl,(by decide : (0 : Int) < 2147483647),_,rfl,_,_,_,_,rfl,rfl,m2,rfl,?_⟩
    exact k a' _ (c + 1) _ ha' (Int.emod_nonneg _ (by decide)) (Int.emod_lt_of_pos _ (by decide)) (by omega) updM_same λ q hq => (updM_ne hq).trans (f2 q hq)
  refine ⟨_,rfl,_,_,rfl,rfl,_,rfl,?_⟩
  refine ite_b (λ h => ?_) (λ h => ?_)
  · refine ⟨_,rfl,_,rfl,_,_,_,_,rfl,rfl,m1,rfl,?_⟩
    exact fin cell _ hcell updM_same λ q hq => (updM_ne hq).trans (f1 q hq)
  · exact fin a M1 ha m1 f1
theorem read_l_take : ∀ ws M Q,sp_l_take ws M Q -> t_l_take { nx := λ _ M' => Q (.d .none) M',rt := Q } (startD N_l_take ws) M := by
  rintro ws M Q ⟨p,n,rfl,⟨a,b,c,ns,hm,ha,hb,hb2,hc,hns⟩,hn,hn2,k⟩
  have i0 : ixW M (.m p) 0 = some (.d (.int a)) := ix_m hm rfl
  have i2 : ixW M (.m p) 2 = some (.d (.int c)) := ix_m hm rfl
  have i3 : ixW M (.m p) 3 = some (.d (.list (ns.map PyData.int))) := ix_m hm rfl
  refine ⟨_,rfl,_,_,rfl,i0,rfl,_,_,rfl,rfl,rfl,_,rfl,?_⟩
  refine ite_b (λ h => ?_) (λ h => ?_)
  · refine ⟨_,rfl,_,_,rfl,i2,rfl,_,rfl,_,_,rfl,i3,rfl,_,_,rfl,rfl,rfl,_,_,rfl,rfl,_,rfl,?_⟩
    refine ite_b (λ h => ?_) (λ h => ?_)
    · have hlt : c < ((ns.map PyData.int).length : Nat) := of_decide_eq_true h
      have hlt' : c.toNat < ns.length := by rw [List.length_map] at hlt; omega
      have ic : ixW M (.d (.list (ns.map PyData.int))) c = some (.d (.int (ns[c.toNat]'hlt'))) := by
        simp only [ixW]
        rw [atI_nn hc hlt]
        simp
      refine ⟨_,rfl,_,_,rfl,i3,rfl,_,rfl,_,_,rfl,i2,rfl,_,_,rfl,ic,rfl,?_⟩
      refine read_take1 (cell := ns[c.toNat]'hlt') hm ha hb hb2 hc (hns _ (List.getElem_mem _)) λ a' b' c' M' h1 h2 h3 h4 h5 h6 => ?_
      exact read_take2 (x := some (.d (.int (ns[c.toNat]'hlt')))) h5 h1 h2 h3 h4 hns hn hn2 (λ r M'' r0 r1 bg fr => k r M'' r0 r1 bg λ q hq => (fr q hq).trans (h6 q hq)) rfl
    · refine read_take1 (cell := 0) hm ha hb hb2 hc (Int.le_refl 0) λ a' b' c' M' h1 h2 h3 h4 h5 h6 => ?_
      exact read_take2 (x := some (.d (.int 0))) h5 h1 h2 h3 h4 hns hn hn2 (λ r M'' r0 r1 bg fr => k r M'' r0 r1 bg λ q hq => (fr q hq).trans (h6 q hq)) rfl
  · exact read_take2 (x := none) hm ha hb hb2 hc hns hn hn2 k rfl
theorem take_fm {f : W -> Option PyData} {ws : List W} {i : Nat} {w : W} (h : ws[i]? = some w) : (ws.take (i + 1)).filterMap f = (ws.take i).filterMap f ++ (f w).toList := by
  rw [List.take_add_one,h,List.filterMap_append]
  cases e : f w <;> simp [e]
theorem lc_pure {tt : TTd} {te : TD} {fr : List Nat} {τ : DS} {M : MH} {Q : List PyData -> MH -> Prop} {ws : List W} (f : W -> Option PyData) (hl : ws.length <= sizeLine)
    (step : ∀ w ∈ ws,∀ P' : Option PyData -> Prop,P' (f w) -> tt (some w :: fr.map λ j => (τ[j]?).getD none) M λ b M3 => if b = true then te (some w :: fr.map λ j => (τ[j]?).getD none) M3 λ y M4 => ∃ d,y = .d d /\ M4 = M /\ P' (some d) else M3 = M /\ P' none)
    (q : Q (ws.filterMap f) M) : ∃ P : Nat -> List PyData -> DS -> MH -> Prop,P 0 [] (lcSD 1 fr τ) M /\
      (∀ i w acc τ M,ws[i]? = some w -> P i acc τ M -> acc.length < sizeLine /\ gN 0 w τ M λ τ2 M2 => tt τ2 M2 λ b M3 => if b = true then te τ2 M3 λ y M4 => ∃ d,y = .d d /\ P (i + 1) (acc ++ [d]) τ2 M4 else P (i + 1) acc τ2 M3) /\
      ∀ acc τ M,P ws.length acc τ M -> Q acc M := by
  let Pk : Nat -> List PyData -> DS -> Prop := λ i acc τ' => i <= ws.length /\ acc = (ws.take i).filterMap f /\ ∃ x,τ' = x :: fr.map λ j => (τ[j]?).getD none
  refine ⟨λ i acc τ' M' => M' = M /\ Pk i acc τ',⟨rfl,Nat.zero_le _,rfl,none,rfl⟩,λ i w acc τ' M' hw hp => ?_,λ acc τ' M' hp => ?_⟩
  · obtain ⟨rfl,hi,rfl,x,rfl⟩ := hp
    have hlt : i < ws.length := (List.getElem?_eq_some_iff.mp hw).1
    refine ⟨?_,step w (List.mem_of_getElem? hw) (λ o => match o with
      | some d => Pk (i + 1) ((ws.take i).filterMap f ++ [d]) (some w :: fr.map λ j => (τ[j]?).getD none)
      | none => Pk (i + 1) ((ws.take i).filterMap f) (some w :: fr.map λ j => (τ[j]?).getD none)) ?_⟩
    · have h1 := List.length_filterMap_le f (ws.take i)
      rw [List.length_take] at h1
      omega
    · cases e : f w with
      | some d => exact ⟨hlt,by rw [take_fm hw,e]; rfl,_,rfl⟩
      | none => exact ⟨hlt,by rw [take_fm hw,e]; simp,_,rfl⟩
  · obtain ⟨rfl,hi,rfl,x,rfl⟩ := hp
    rw [List.take_of_length_le (Nat.le_refl _)]
    exact q
theorem fm_map {α : Type} (g : α -> W) (f : W -> Option PyData) (h : α -> PyData) (e : ∀ a,f (g a) = some (h a)) (l : List α) : (l.map g).filterMap f = l.map h := by
  induction l with
  | nil => rfl
  | cons a l ih => rw [List.map_cons,List.filterMap_cons,e,ih]; rfl
theorem read_l_bag : ∀ ws M Q,sp_l_bag ws M Q -> t_l_bag { nx := λ _ M' => Q (.d .none) M',rt := Q } (startD N_l_bag ws) M := by
  rintro ws M Q ⟨ns,rfl,hl,k⟩
  refine ⟨_,rfl,_,rfl,_,rfl,rfl,_,rfl,?_⟩
  have ec : cutD (ns.map PyData.int) none (some 63) = (cutD ns none (some 63)).map PyData.int := by
    simp only [cutD,List.length_map,List.map_take,List.map_drop]
  have hlen : (cutD ns none (some 63)).length <= ns.length := by
    simp only [cutD,List.length_take,List.length_drop]
    omega
  have h1000 : (1000 : Nat) <= sizeLine := by rw [sizeLine_eq]; decide
  dsimp only
  refine lc_pure (λ w => match w with
    | .d (.int n) => some (.int (if n < 0 then -n else n))
    | _ => none) ?hl (λ w hw P' hp => ?_) ?_
  case hl => rw [List.length_map,ec,List.length_map]; omega
  · rw [ec,List.map_map] at hw
    obtain ⟨n,_,rfl⟩ := List.mem_map.mp hw
    exact ⟨_,rfl,_,rfl,_,rfl,rfl,hp⟩
  · have e2 : (List.map W.d (cutD (ns.map PyData.int) none (some 63))).filterMap (λ w => match w with
        | .d (.int n) => some (PyData.int (if n < 0 then -n else n))
        | _ => none) = ((cutD ns none (some 63)).map λ n => if n < 0 then -n else n).map PyData.int := by
      rw [ec,List.map_map,fm_map (W.d ∘ PyData.int) _ (λ n => PyData.int (if n < 0 then -n else n)) (λ n => rfl),List.map_map]
      rfl
    rw [e2]
    refine ⟨by simp [sizeLine_eq],λ p hp => k p _ hp (λ q hq => updM_ne hq) ⟨0,1234567891,0,_,updM_same,Int.le_refl 0,by decide,by decide,Int.le_refl 0,λ n hn => ?_⟩⟩
    obtain ⟨m,_,rfl⟩ := List.mem_map.mp hn
    split <;> omega
theorem law_start {K : PySem.W.Frag} {H : Hp} {a : Addr} {ns : List Int} {sp : SpD} (hl : ns.length <= 63) (hO : L2.Only H) (hS : L2.SqL K H a (ns.map V.int)) (h : ∀ ns : List Int,ns.length <= 63 -> sp [.d (.list (ns.map PyData.int))] (λ _ => none) (λ w _ => w = .d (.bool true))) :
    upSp K sp [.ref a] H (λ v _ => v = .bl true) λ _ _ _ => False := by
  refine ⟨[.d (.list (ns.map PyData.int))],λ _ => none,_,.cons ?_ .nil,λ a o z => (nomatch z),h ns hl,λ v H' w M' kp r m q => ?_⟩
  · simp only [RepW,RepD]
    refine ⟨a,_,rfl,?_,RepA.ints ns⟩
    rcases hS with (h | h) | h
    · rcases hO a with z | ⟨ob,xs,z⟩
      · rw [h] at z; cases z
      · rw [h] at z; cases z
    · exact .inl h
    · exact .inr h
  · subst q
    simp only [RepW,RepD] at r
    exact r
end D
set_option Elab.async false
set_option linter.all false
set_option maxRecDepth 100000
set_option maxHeartbeats 4000000
namespace D
open PySem PySem.Spec PyProof.Rows L2
def ascB (z : Str) : Bool := z.cps.all (· < 128)
mutual
def big : PyData -> Nat
  | .none => 4
  | .bool _ => 5
  | .int _ => 2000
  | .str z => 10 * z.length + 2
  | .list ds => bigA ds + 2
  | .tuple ds => bigA ds + 3
  | .dict kvs => bigK kvs + 2
def bigA : List PyData -> Nat
  | [] => 0
  | d :: ds => big d + 2 + bigA ds
def bigK : List (PyData × PyData) -> Nat
  | [] => 0
  | (k,d) :: ds => big k + 2 + big d + 2 + bigK ds
end
mutual
def fineD : PyData -> Bool
  | .none => true
  | .bool _ => true
  | .int i => decide (i.natAbs.log2 < 1920)
  | .str z => ascB z
  | .list ds => fineA ds
  | .tuple ds => fineA ds
  | .dict kvs => fineK kvs
def fineA : List PyData -> Bool
  | [] => true
  | d :: ds => fineD d && fineA ds
def fineK : List (PyData × PyData) -> Bool
  | [] => true
  | (k,d) :: ds => fineD k && fineD d && fineK ds
end
theorem listText_le : ∀ ts : List Str,(listText ts).length <= piled ts + 2
  | [] => by decide +kernel
  | t :: r => by
    have h := textFrom_length_pos r 1 (("[" : Str) ++ (if (0 : Nat) > 0 then ", " else "" : String) ++ t) (Nat.succ_pos 0)
    have e : ((("[" : Str) ++ (if (0 : Nat) > 0 then ", " else "" : String) ++ t)).length = 1 + t.length := by
      rw [strLen_append,strLen_append]; rfl
    have hX : (listText (t :: r)).length = (textFrom 0 "[" (t :: r)).length + 1 := by
      show (textFrom 0 "[" (t :: r) ++ "]").length = _
      rw [strLen_append]; rfl
    have h2 : (textFrom 0 "[" (t :: r)).length = (1 + t.length) + piled r := by rw [<- e]; exact h
    have h3 : piled (t :: r) = t.length + 2 + piled r := by simp [piled]
    omega
theorem join_le (ts : List Str) : (Str.join ", " ts).length <= piled ts := by
  cases ts with
  | nil => decide +kernel
  | cons t r => have := join_length_add (t :: r) (by simp); omega
theorem tupleText_le (ts : List Str) : (tupleText ts).length <= piled ts + 3 := by
  unfold tupleText
  rw [strLen_append,strLen_append]
  have e1 : ((("(" : String) : Str)).length = 1 := rfl
  have e3 : (((if ts.length == 1 then ",)" else ")" : String) : Str)).length <= 2 := by split <;> decide
  have := join_le ts
  omega
theorem dictText_le (ts : List Str) : (dictText ts).length <= piled ts + 2 := by
  unfold dictText
  rw [strLen_append,strLen_append]
  have e1 : ((("{" : String) : Str)).length = 1 := rfl
  have e2 : ((("}" : String) : Str)).length = 1 := rfl
  have := join_le ts
  omega
theorem int_len {i : Int} (h : i.natAbs.log2 < 1920) : (Str.ofString (toString i)).length <= 2000 := by
  have e := int_text_length_le (k := 1920) (by decide) h
  rw [PySem.ofString_length]; omega
theorem repr_len {z : Str} (h : ascB z = true) : (reprText z).length <= 10 * z.length + 2 := StrLaws.reprText_len z λ c hc => by
  have := Array.all_eq_true_iff_forall_mem.mp h c (by simpa using hc)
  have h2 : c < 128 := by simpa using this
  omega
mutual
theorem shown_le : ∀ d : PyData,fineD d = true -> d.shown.length <= big d
  | .none,_ => by rw [PyData.shown]; decide +kernel
  | .bool b,_ => by rw [PyData.shown]; cases b <;> decide +kernel
  | .int i,h => by rw [PyData.shown]; exact int_len (by simpa [fineD] using h)
  | .str z,h => by rw [PyData.shown,big]; exact repr_len (by simpa [fineD] using h)
  | .list ds,h => by
    have h1 := shownA_le ds (by simpa [fineD] using h)
    have h2 := listText_le (PyData.shownAll ds)
    rw [PyData.shown,big]; omega
  | .tuple ds,h => by
    have h1 := shownA_le ds (by simpa [fineD] using h)
    have h2 := tupleText_le (PyData.shownAll ds)
    rw [PyData.shown,big]; omega
  | .dict ds,h => by
    have h1 := shownK_le ds (by simpa [fineD] using h)
    have h2 := dictText_le (PyData.shownKv ds)
    rw [PyData.shown,big]; omega
theorem shownA_le : ∀ ds : List PyData,fineA ds = true -> piled (PyData.shownAll ds) <= bigA ds
  | [],_ => by simp [PyData.shownAll,piled,bigA]
  | d :: ds,h => by
    simp only [fineA,Bool.and_eq_true] at h
    have h1 := shown_le d h.1
    have h2 := shownA_le ds h.2
    simp only [PyData.shownAll,piled_cons,bigA]
    omega
theorem shownK_le : ∀ ds : List (PyData × PyData),fineK ds = true -> piled (PyData.shownKv ds) <= bigK ds
  | [],_ => by simp [PyData.shownKv,piled,bigK]
  | (k,d) :: ds,h => by
    simp only [fineK,Bool.and_eq_true] at h
    have h1 := shown_le k h.1.1
    have h3 := shown_le d h.1.2
    have h2 := shownK_le ds h.2
    have e : ((((": " : String) : Str))).length = 2 := rfl
    simp only [PyData.shownKv,piled_cons,bigK,strLen_append,e]
    omega
end
mutual
theorem fine_show : ∀ d : PyData,fineD d = true -> d.showable = true
  | .none,_ => by simp [PyData.showable]
  | .bool b,_ => by simp [PyData.showable]
  | .int i,h => by simpa [PyData.showable,fineD] using h
  | .str z,h => by simp [PyData.showable]
  | .list ds,h => by simpa [PyData.showable] using fine_showA ds (by simpa [fineD] using h)
  | .tuple ds,h => by simpa [PyData.showable] using fine_showA ds (by simpa [fineD] using h)
  | .dict ds,h => by simpa [PyData.showable] using fine_showK ds (by simpa [fineD] using h)
theorem fine_showA : ∀ ds : List PyData,fineA ds = true -> PyData.showableAll ds = true
  | [],_ => by simp [PyData.showableAll]
  | d :: ds,h => by
    simp only [fineA,Bool.and_eq_true] at h
    simp [PyData.showableAll,fine_show d h.1,fine_showA ds h.2]
theorem fine_showK : ∀ ds : List (PyData × PyData),fineK ds = true -> PyData.showableKv ds = true
  | [],_ => by simp [PyData.showableKv]
  | (k,d) :: ds,h => by
    simp only [fineK,Bool.and_eq_true] at h
    simp [PyData.showableKv,fine_show k h.1.1,fine_show d h.1.2,fine_showK ds h.2]
end
theorem s16 : (1000000 : Nat) <= sizeLine := by rw [sizeLine_eq]; decide
theorem repr_ok {d : PyData} (h : fineD d = true) (hb : big d <= 1000000) (hd : d.depth <= 60) (hk : d.hasDict = false) : reprOk d = true := by
  have h1 := fine_show d h
  have h2 := shown_le d h
  have h3 := s16
  simp only [reprOk,h1,Bool.true_and,Bool.and_eq_true,decide_eq_true_eq,Bool.or_eq_true,Bool.not_eq_true']
  exact ⟨⟨by omega,hd⟩,.inl hk⟩
end D
set_option Elab.async false
set_option linter.all false
set_option maxRecDepth 100000
set_option maxHeartbeats 4000000
namespace D
open PySem PySem.Spec PyProof.Rows L2
section
variable {κ α : Type} [DecidableEq κ]
def tget (t : List (κ × α)) (k : κ) : Option α := (t.find? λ p => decide (p.1 = k)).map (·.2)
def tput (t : List (κ × α)) (k : κ) (v : α) : List (κ × α) := if (t.any λ p => decide (p.1 = k)) = true then t.map (λ p => if p.1 = k then (p.1,v) else p) else t ++ [(k,v)]
def OR {β γ : Type} (R : β -> γ -> Prop) : Option β -> Option γ -> Prop
  | some a,some b => R a b
  | none,none => True
  | _,_ => False
theorem OR.some_of {β γ : Type} {R : β -> γ -> Prop} {a : β} {o : Option γ} (h : OR R (some a) o) : ∃ b,o = some b /\ R a b := by
  cases o with
  | none => exact h.elim
  | some b => exact ⟨b,rfl,h⟩
theorem OR.none_of {β γ : Type} {R : β -> γ -> Prop} {o : Option γ} (h : OR R none o) : o = none := by
  cases o with
  | none => rfl
  | some b => exact h.elim
theorem OR.isSome {β γ : Type} {R : β -> γ -> Prop} : ∀ {a : Option β} {o : Option γ},OR R a o -> a.isSome = o.isSome
  | some _,some _,_ => rfl
  | none,none,_ => rfl
  | some _,none,h => h.elim
  | none,some _,h => h.elim
theorem tb_get {R : α -> V -> Prop} (k : κ) : ∀ {t : List (κ × α)} {l : List (κ × V)},Paired (λ p q => p.1 = q.1 /\ R p.2 q.2) t l -> OR R (tget t k) (valV l k)
  | _,_,.nil => True.intro
  | _,_,.cons (a := p) (b := q) (l₁ := t1) h t => by
    obtain ⟨h1,h2⟩ := h
    by_cases e : p.1 = k
    · rw [valV_pos (h1.symm.trans e),show tget (p :: t1) k = some p.2 by simp [tget,List.find?_cons,e]]
      exact h2
    · rw [valV_neg (λ z => e (h1.trans z)),show tget (p :: t1) k = tget t1 k by simp [tget,List.find?_cons,e]]
      exact tb_get k t
theorem tb_any {R : α -> V -> Prop} (k : κ) : ∀ {t : List (κ × α)} {l : List (κ × V)},Paired (λ p q => p.1 = q.1 /\ R p.2 q.2) t l -> (t.any λ p => decide (p.1 = k)) = (l.any λ p => decide (p.1 = k))
  | _,_,.nil => rfl
  | _,_,.cons (a := p) (b := q) h t => by
    simp only [List.any_cons]
    rw [tb_any k t,h.1]
theorem tb_map {R : α -> V -> Prop} (k : κ) {a : α} {v : V} (r : R a v) : ∀ {t : List (κ × α)} {l : List (κ × V)},Paired (λ p q => p.1 = q.1 /\ R p.2 q.2) t l ->
    Paired (λ p q => p.1 = q.1 /\ R p.2 q.2) (t.map λ p => if p.1 = k then (p.1,a) else p) (l.map λ p => if p.1 = k then (p.1,v) else p)
  | _,_,.nil => .nil
  | _,_,.cons (a := p) (b := q) h t => by
    simp only [List.map_cons]
    refine .cons ?_ (tb_map k r t)
    by_cases e : p.1 = k
    · rw [if_pos e,if_pos (h.1.symm.trans e)]
      exact ⟨h.1,r⟩
    · rw [if_neg e,if_neg (λ z => e (h.1.trans z))]
      exact h
theorem tb_snoc {P : κ × α -> κ × V -> Prop} {p : κ × α} {q : κ × V} (r : P p q) : ∀ {t : List (κ × α)} {l : List (κ × V)},Paired P t l -> Paired P (t ++ [p]) (l ++ [q])
  | _,_,.nil => .cons r .nil
  | _,_,.cons h t => .cons h (tb_snoc r t)
theorem tb_put {R : α -> V -> Prop} (k : κ) {a : α} {v : V} (r : R a v) {t : List (κ × α)} {l : List (κ × V)} (h : Paired (λ p q => p.1 = q.1 /\ R p.2 q.2) t l) :
    Paired (λ p q => p.1 = q.1 /\ R p.2 q.2) (tput t k a) (putK l k v) := by
  unfold tput putK
  rw [tb_any k h]
  split
  · exact tb_map k r h
  · exact tb_snoc ⟨rfl,r⟩ h
theorem tb_len {P : κ × α -> κ × V -> Prop} : ∀ {t : List (κ × α)} {l : List (κ × V)},Paired P t l -> t.length = l.length
  | _,_,.nil => rfl
  | _,_,.cons _ t => by simp [tb_len t]
theorem tget_cons {p : κ × α} {t : List (κ × α)} {k : κ} : tget (p :: t) k = if p.1 = k then some p.2 else tget t k := by
  by_cases e : p.1 = k <;> simp [tget,List.find?_cons,e]
theorem tget_any (k : κ) : ∀ t : List (κ × α),(t.any λ p => decide (p.1 = k)) = (tget t k).isSome
  | [] => rfl
  | p :: t => by
    rw [List.any_cons,tget_any k t,tget_cons]
    by_cases e : p.1 = k <;> simp [e]
end
def kW (k : Key) : W := .d (keyD k)
theorem kW_rep {K : PySem.W.Frag} {H : Hp} {k : Key} {v : V} (r : RepW K H (kW k) v) : v = kV k := key_rep r
def tkW (ks : List Key) : W := .d (.tuple (ks.map keyD))
theorem keysA {K : PySem.W.Frag} {H : Hp} : ∀ {ks : List Key} {vs : List V},RepA K H (ks.map keyD) vs -> vs = ks.map kV
  | [],vs,h => by simpa [RepA] using h
  | k :: ks,vs,h => by
    simp only [List.map_cons,RepA] at h
    obtain ⟨v,r,e,h1,h2⟩ := h
    rw [e,key_rep h1,keysA h2]
    rfl
def Rd2 (H : Hp) (a : Addr) (u : HO) : Prop := Rd H a u \/ ∃ o,H a = some (.frz o (.frz o u))
theorem dk_rd2 {P : Program} {w : World} {H : Hp} {h : Heap} {a : Addr} {kvs : List (Key × V)} (ok : HOk P w H h) (e : Rd2 H a (.dK kvs)) : kvs.length <= sizeLine /\ (a == sysModules) = false /\ ∃ vs,KV kvs vs /\ h.DictOf (mixKind P w) a vs := by
  rcases e with e | ⟨o,e⟩
  · exact dk_rd ok e
  · exact (ok a _ e).2.2
def DGetS (K : PySem.W.Frag) (H : Hp) (a : Addr) (y : V) (r : Option V) : Prop :=
  (∃ kvs k,Rd2 H a (.dK kvs) /\ y = kV k /\ r = valV kvs k) \/ ∃ kvs k b,Rd H a (.dT kvs) /\ y = .ref b /\ SqT K H b (k.map kV) /\ r = valV kvs k
theorem key_sq {X : Cx} {pins : List (Addr × Obj)} {σ : St} {H : Hp} {s : Shared} {b : Addr} {ks : List Key} (I : Inv X pins σ H s) (h : SqT X.K H b (ks.map kV)) : (tupleKind (mixKind X.prog X.w)).is s.heap ks b := by
  obtain ⟨its,r,⟨o,h1,h2,n,h3⟩,_⟩ := I.tuple h
  exact ⟨o,its.toArray,n,h1,h2,h3,by simpa using items_are r⟩
section
variable {X : Cx} {pins : List (Addr × Obj)} {σ : St} {H : Hp} {s : Shared} {a : Addr} {y d : V} {u r : Value} {o : Option V} {A : Around} {E : Value -> Shared -> Prop}
theorem ds_in {Q : Value -> Shared -> Prop} (hu : A.units + 1 < cLine) (I : Inv X pins σ H s) (g : DGetS X.K H a y o) (ry : RelV y u) (h : ∀ s',Inv X pins σ H s' -> Q (.bool o.isSome) s') :
    wpAny (model X.prog X.w) A (compareOp .In u (.ref a)) Q E s := by
  rcases g with ⟨kvs,k,e,ey,l⟩ | ⟨kvs,k,b,e,ey,eb,l⟩
  · subst ey
    obtain ⟨z,hd,vs,rel,dd⟩ := dk_rd2 I.hok e
    refine wpAny_in_of (kV_is ry) hd dd.mapOf ?_
    rw [<- (rel.val k).isSome_eq,<- l]
    exact h _ (I.tok _)
  · subst ey
    cases (show u = Value.ref b from ry)
    obtain ⟨z,hd,xs,rel,dd⟩ := dt_rd I.hok e
    refine wpAny_in_heap (tupleKind_room_in1 hu) (key_sq I eb) hd dd ?_
    have q := (rel.val k).isSome_eq
    rw [Option.isSome_map] at q
    rw [<- q,<- l]
    exact h _ (I.tok _)
theorem ds_get2 {Q : Value -> Shared -> Prop} (hu : A.units + 1 < cLine) (I : Inv X pins σ H s) (g : DGetS X.K H a y o) (ry : RelV y u) (rd : RelV d r) (h : ∀ w' s',Inv X pins σ H s' -> RelV (o.getD d) w' -> Q w' s') :
    wpAny (model X.prog X.w) A (call (.builtin "dict.get") [.ref a,u,r]) Q E s := by
  rcases g with ⟨kvs,k,e,ey,l⟩ | ⟨kvs,k,b,e,ey,eb,l⟩
  · subst ey
    obtain ⟨z,hd,vs,rel,dd⟩ := dk_rd2 I.hok e
    refine call_meetsIn PySem.F.slot_dict_get dd.typeIs PySem.F.entry_dict_get (PySem.F.args_dict_get_3 _ _ _) (meets_dict_get_default (mixKind X.prog X.w) a (kV_is ry) hd r) ⟨_,dd.mapOf,h _ _ (I.tok _) ?_⟩
    rw [l]
    exact (rel.val k).getD rd
  · subst ey
    cases (show u = Value.ref b from ry)
    obtain ⟨z,hd,xs,rel,dd⟩ := dt_rd I.hok e
    refine call_meetsIn PySem.F.slot_dict_get dd.typeIs PySem.F.entry_dict_get (PySem.F.args_dict_get_3 _ _ _) (meetsH_dict_get_default (tupleKind (mixKind X.prog X.w)) a b hd r) ⟨tupleKind_room_in1 hu,k,xs,key_sq I eb,dd,h _ _ (I.tok _) ?_⟩
    rw [l]
    exact (rel.val k).getD rd
theorem ds_getItem {v : V} {Q : Value -> Shared -> Prop} (hu : A.units + 1 < cLine) (I : Inv X pins σ H s) {kvs : List (Key × V)} {k : Key} (e : Rd2 H a (.dK kvs)) (l : valV kvs k = some v) (ry : RelV (kV k) u) (h : ∀ w' s',Inv X pins σ H s' -> RelV v w' -> Q w' s') :
    s.TypeIs (.ref a) "dict" /\ wpAny (model X.prog X.w) A (getItem (.ref a) u) Q E s := by
  obtain ⟨z,hd,vs,rel,dd⟩ := dk_rd2 I.hok e
  obtain ⟨w',hw,rw'⟩ := RelO.some_of (v := v) (o := valueAt vs k) (by rw [<- l]; exact rel.val k)
  exact ⟨dd.typeIs,wpAny_getItem_of (kV_is ry) dd.mapOf hw (h w' _ (I.tok _) rw')⟩
end
end D
set_option Elab.async false
set_option linter.all false
set_option maxRecDepth 100000
set_option maxHeartbeats 4000000
namespace D
open PySem PySem.Spec PyProof.Rows L2
inductive DLook (M : MH) : W -> W -> Option W -> Prop
  | k {a : Addr} {kvs : List (Key × W)} {k : Key} (h : M a = some (.dic kvs)) : DLook M (.m a) (kW k) (tget kvs k)
  | t {a : Addr} {kvs : List (List Key × W)} {ks : List Key} (h : M a = some (.dct kvs)) : DLook M (.m a) (tkW ks) (tget kvs ks)
  | f {a : Addr} {kvs : List (Key × W)} {k : Key} (h : M a = some (.fdic kvs)) : DLook M (.m a) (kW k) (tget kvs k)
  | d {kvs : List (Key × PyData)} {k : Key} : DLook M (.d (.dict (kvs.map λ p => (keyD p.1,p.2)))) (kW k) ((tget kvs k).map W.d)
inductive DIs (M : MH) : W -> Prop
  | k {a : Addr} {kvs : List (Key × W)} (h : M a = some (.dic kvs)) : DIs M (.m a)
  | t {a : Addr} {kvs : List (List Key × W)} (h : M a = some (.dct kvs)) : DIs M (.m a)
  | d {kvs : List (PyData × PyData)} : DIs M (.d (.dict kvs))
theorem keyD_inj {a b : Key} (h : keyD a = keyD b) : a = b := by
  cases a <;> cases b <;> simp [keyD] at h <;> rw [h]
theorem repK_paired {K : PySem.W.Frag} {H : Hp} : ∀ {kvs : List (Key × PyData)} {l : List (Key × V)},RepK K H (kvs.map λ p => (keyD p.1,p.2)) l -> Paired (λ (p : Key × PyData) (q : Key × V) => p.1 = q.1 /\ RepD K H p.2 q.2) kvs l
  | [],l,h => by
    simp only [List.map_nil,RepK] at h
    subst h
    exact .nil
  | p :: kvs,l,h => by
    simp only [List.map_cons,RepK] at h
    obtain ⟨key,v,r,e,ek,h1,h2⟩ := h
    subst e
    exact .cons ⟨keyD_inj ek,h1⟩ (repK_paired h2)
theorem DIs.sound {K : PySem.W.Frag} {H : Hp} {M : MH} {w : W} {x : V} (g : DIs M w) (r : RepW K H w x) (m : MAbs K H M) : ∃ a,x = .ref a /\ IsD H a := by
  cases g with
  | k h =>
    obtain ⟨l,e,_⟩ := m _ _ h
    exact ⟨_,r,.inl ⟨l,.inl e⟩⟩
  | t h =>
    obtain ⟨l,e,_⟩ := m _ _ h
    exact ⟨_,r,.inr ⟨l,.inl e⟩⟩
  | d =>
    simp only [RepW,RepD] at r
    obtain ⟨a,o,l,e,h,_⟩ := r
    exact ⟨a,e,.inl ⟨l,.inr ⟨o,h⟩⟩⟩
theorem DLook.sound {K : PySem.W.Frag} {H : Hp} {M : MH} {w y : W} {o : Option W} {x v : V} (g : DLook M w y o) (r : RepW K H w x) (ry : RepW K H y v) (m : MAbs K H M) :
    ∃ a p,x = .ref a /\ DGetS K H a v p /\ OR (RepW K H) o p := by
  cases g with
  | @k a kvs k h =>
    obtain ⟨l,e,pr⟩ := m _ _ h
    exact ⟨_,_,r,.inl ⟨l,k,.inl (.inl e),kW_rep ry,rfl⟩,tb_get k pr⟩
  | @f a kvs k h =>
    obtain ⟨ob,l,e,pr⟩ := m _ _ h
    exact ⟨_,_,r,.inl ⟨l,k,.inr ⟨ob,e⟩,kW_rep ry,rfl⟩,tb_get k pr⟩
  | @t a kvs ks h =>
    obtain ⟨l,e,pr⟩ := m _ _ h
    simp only [tkW,RepW,RepD] at ry
    obtain ⟨b,vs,eb,hs,ra⟩ := ry
    rw [keysA ra] at hs
    exact ⟨_,_,r,.inr ⟨l,ks,b,.inl e,eb,hs,rfl⟩,tb_get ks pr⟩
  | @d kvs k =>
    simp only [RepW,RepD] at r
    obtain ⟨a,ob,l,e,h,rk⟩ := r
    refine ⟨a,_,e,.inl ⟨l,k,.inl (.inr ⟨ob,h⟩),kW_rep ry,rfl⟩,?_⟩
    have g := tb_get (R := λ d q => RepD K H d q) k (repK_paired rk)
    cases q : tget kvs k with
    | none => rw [q] at g; rw [OR.none_of g]; exact True.intro
    | some z =>
      rw [q] at g
      obtain ⟨b,eb,rb⟩ := OR.some_of g
      rw [eb]
      exact rb
section
variable {X : Cx} {o i e f : Expr} {pos apos cpos : Pos} {td ty tx : TE}
def tDInS (K : PySem.W.Frag) (ty td : TE) : TE := λ σ H Q => ty σ H λ y H1 => td σ H1 λ x H2 => ∃ a o,x = .ref a /\ DGetS K H2 a y o /\ Q (.bl o.isSome) H2
theorem pc_dinS (hu : X.A.units + 1 < cLine) (hi : PE X i ty) (ho : PE X o td) : PC X .In i o (tDInS X.K ty td) := by
  intro pins s σ H Q I h
  refine thn (hi pins s σ H _ I h) λ iv s1 ⟨y,H1,I1,ry,q1⟩ => thn (ho pins s1 σ H1 _ I1 q1) λ u s2 hq52 => ?_
  obtain ⟨x,H2,I2,rx,a,ov,ex,g,q2⟩ := hq52
  subst ex
  obtain rfl : u = Value.ref a := rx
  exact ds_in hu I2 g ry λ s3 I3 => ⟨.bl ov.isSome,H2,I3,rfl,q2⟩
def tDGet2S (K : PySem.W.Frag) (td ty tx : TE) : TE := λ σ H Q => td σ H λ x H1 => ∃ a,x = .ref a /\ IsD H1 a /\ ty σ H1 λ y H2 => tx σ H2 λ z H3 => ∃ o,DGetS K H3 a y o /\ Q (o.getD z) H3
theorem pe_dget2S (hu : X.A.units + 1 < cLine) (ho : PE X o td) (he : PE X e ty) (hf : PE X f tx) (m : M2 X o "get" apos e f cpos) : PE X (.Call (.Attribute o "get" apos) [e,f] [] cpos) (tDGet2S X.K td ty tx) := by
  intro pins s σ H Q I h
  refine wpAny_Call_method m.base m.few m.line PySem.F.plainAttrs_dict PySem.F.slot_dict_get PySem.F.type_dict_get (thn (ho pins s σ H _ I h) λ u s1 hq53 => ?_)
  obtain ⟨x,H1,I1,rx,a,ex,d,q1⟩ := hq53
  subst ex
  obtain rfl : u = Value.ref a := rx
  obtain ⟨t1,t2,_⟩ := isD_at I1 d
  refine ⟨t1,t2,?_⟩
  rw [m.trees]
  refine Calls.callWith_builtin rfl (Calls.evalArgs_plain (Calls.spliced_cons (thn (he pins s1 σ H1 _ I1 q1) λ iv s2 ⟨y,H2,I2,ry,q2⟩ =>
    Calls.spliced_cons (thn (hf pins s2 σ H2 _ I2 q2) λ fv s3 ⟨z,H3,I3,rz,ov,g,q3⟩ => Calls.spliced_nil ?_))))
  exact ds_get2 hu I3 g ry rz λ w' s4 I4 rw' => ⟨_,H3,I4,rw',q3⟩
end
section
variable {X : Cx} {o i : Expr} {pos : Pos} {td ty : TE}
def tDGetS (td ty : TE) : TE := λ σ H Q => td σ H λ x H1 => ty σ H1 λ y H2 => ∃ a kvs k v,x = .ref a /\ Rd2 H2 a (.dK kvs) /\ y = kV k /\ valV kvs k = some v /\ Q v H2
theorem pe_dgetS (hu : X.A.units + 1 < cLine) (ho : PE X o td) (hi : PE X i ty) (hs : NoSl i) : PE X (.Subscript o i pos) (tDGetS td ty) := by
  intro pins s σ H Q I h
  refine subD_of PySem.F.slot_dict_getitem.lookup hs (thn (ho pins s σ H _ I h) λ u s1 ⟨x,H1,I1,rx,q1⟩ => thn (hi pins s1 σ H1 _ I1 q1) λ iv s2 hq54 => ?_)
  obtain ⟨y,H2,I2,ry,a,kvs,k,v,ex,g,ey,l,q2⟩ := hq54
  subst ex ey
  obtain rfl : u = Value.ref a := rx
  exact ds_getItem hu I2 g l ry λ w' s3 I3 rw' => ⟨v,H2,I3,rw',q2⟩
end
section
variable {X : Cx} {o i e f value : Expr} {es : List Expr} {pos pos' apos cpos : Pos} {td ti tx tv : TD} {t : TAd}
def dNewDic (_ : DS) (M : MH) (Q : QD) : Prop := ∀ p,M p = none -> Q (.m p) (updM M p (.dic []))
theorem pd_newDic : PD X (.Dict [] [] pos) dNewDic := pe_w pe_dnewK λ σ H Q ⟨τ,M,Qd,A,h,k⟩ p hp =>
  k (.ref p) _ (.m p) (updM M p (.dic [])) (Kp.new hp) rfl (A.mem.put (mo := .dic []) (Kp.new hp) ⟨[],upd_same,.nil⟩) (h p (A.mem.free hp))
def dDIn (ti td : TD) (τ : DS) (M : MH) (Q : QD) : Prop := ti τ M λ y M1 => td τ M1 λ w M2 => ∃ o,DLook M2 w y o /\ Q (.d (.bool o.isSome)) M2
theorem imp_din {σ : St} {H : Hp} {Q : VK} (h : up X.K (dDIn ti td) σ H Q) : tDInS X.K (up X.K ti) (up X.K td) σ H Q := by
  obtain ⟨τ,M,Qd,A,h,k⟩ := h
  refine ⟨τ,M,_,A,h,λ y H1 wy M1 kp1 r1 m1 q1 => ⟨τ,M1,_,A.go kp1 m1,q1,λ x H2 w M2 kp2 r2 m2 hq55 => ?_⟩⟩
  obtain ⟨o,g,q2⟩ := hq55
  obtain ⟨a,p,e,g',ro⟩ := g.sound r2 (r1.keep kp2) m2
  refine ⟨a,p,e,g',?_⟩
  rw [<- ro.isSome]
  exact k _ H2 (.d (.bool _)) M2 (kp1.trans kp2) (by simp [RepW,RepD]) m2 q2
theorem pd_din (hu : X.A.units + 1 < cLine) (hi : PD X i ti) (ho : PD X o td) (hm : behindInMarks .In o = false := by rfl) : PD X (.Compare i [.In] [o] pos) (dDIn ti td) := pe_w (pe_cmp (pc_dinS hu hi ho) hm) λ σ H Q h => imp_din h
def dDGet (td ti : TD) (τ : DS) (M : MH) (Q : QD) : Prop := td τ M λ w M1 => ti τ M1 λ y M2 => ∃ a kvs k v,w = .m a /\ (M2 a = some (.dic kvs) \/ M2 a = some (.fdic kvs)) /\ y = kW k /\ tget kvs k = some v /\ Q v M2
theorem pd_dget (hu : X.A.units + 1 < cLine) (ho : PD X o td) (hi : PD X i ti) (hs : NoSl i := by exact λ _ _ => rfl) : PD X (.Subscript o i pos) (dDGet td ti) := pe_w (pe_dgetS hu ho hi hs) λ σ H Q h => by
  obtain ⟨τ,M,Qd,A,h,k⟩ := h
  refine ⟨τ,M,_,A,h,λ x H1 w M1 kp1 r1 m1 q1 => ⟨τ,M1,_,A.go kp1 m1,q1,λ y H2 wy M2 kp2 r2 m2 hq56 => ?_⟩⟩
  obtain ⟨a,kvs,key,v,ew,hm,ey,hv,q2⟩ := hq56
  subst ew ey
  obtain ⟨l,e,pr⟩ : ∃ l,Rd2 H2 a (.dK l) /\ Paired (λ (p : Key × W) (q : Key × V) => p.1 = q.1 /\ RepW X.K H2 p.2 q.2) kvs l := by
    rcases hm with hm | hm
    · obtain ⟨l,e,pr⟩ := m2 _ _ hm
      exact ⟨l,.inl (.inl e),pr⟩
    · obtain ⟨ob,l,e,pr⟩ := m2 _ _ hm
      exact ⟨l,.inr ⟨ob,e⟩,pr⟩
  have g := tb_get key pr
  rw [hv] at g
  obtain ⟨b,eb,rb⟩ := OR.some_of g
  refine ⟨a,l,key,b,r1,e,kW_rep r2,eb,?_⟩
  exact k _ H2 v M2 (kp1.trans kp2) rb m2 q2
def dGet2 (td ti tx : TD) (τ : DS) (M : MH) (Q : QD) : Prop := td τ M λ w M1 => DIs M1 w /\ ti τ M1 λ y M2 => tx τ M2 λ z M3 => ∃ o,DLook M3 w y o /\ Q (o.getD z) M3
theorem OR.getD {K : PySem.W.Frag} {H : Hp} {o : Option W} {p : Option V} {z : W} {v : V} (h : OR (RepW K H) o p) (r : RepW K H z v) : RepW K H (o.getD z) (p.getD v) := by
  cases o with
  | none => rw [OR.none_of h]; exact r
  | some a => obtain ⟨b,e,q⟩ := OR.some_of h; rw [e]; exact q
theorem pd_get2 (hu : X.A.units + 1 < cLine) (ho : PD X o td) (he : PD X e ti) (hf : PD X f tx) (m : M2 X o "get" apos e f cpos := by exact ⟨rfl,rfl,rfl,rfl⟩) : PD X (.Call (.Attribute o "get" apos) [e,f] [] cpos) (dGet2 td ti tx) := pe_w (pe_dget2S hu ho he hf m) λ σ H Q h => by
  obtain ⟨τ,M,Qd,A,h,k⟩ := h
  refine ⟨τ,M,_,A,h,λ x H1 w M1 kp1 r1 m1 hq57 => ?_⟩
  obtain ⟨di,q1⟩ := hq57
  obtain ⟨a,ea,isd⟩ := di.sound r1 m1
  refine ⟨a,ea,isd,τ,M1,_,A.go kp1 m1,q1,λ y H2 wy M2 kp2 r2 m2 q2 => ⟨τ,M2,_,A.go (kp1.trans kp2) m2,q2,λ z H3 wz M3 kp3 r3 m3 hq58 => ?_⟩⟩
  obtain ⟨o,g,q3⟩ := hq58
  obtain ⟨a',p,e',g',ro⟩ := g.sound (r1.keep (kp2.trans kp3)) (r2.keep kp3) m3
  rw [ea] at e'
  cases e'
  exact ⟨p,g',k _ H3 _ M3 ((kp1.trans kp2).trans kp3) (ro.getD r3) m3 q3⟩
def dDPut (td ti tv : TD) (D : Ed) (τ : DS) (M : MH) : Prop := tv τ M λ v M1 => td τ M1 λ w M2 => ti τ M2 λ y M3 => ∃ a kvs k,w = .m a /\ M3 a = some (.dic kvs) /\ y = kW k /\ kvs.length < sizeLine /\ D.nx τ (updM M3 a (.dic (tput kvs k v)))
theorem psd_dput (hu : X.A.units + 1 < cLine) (ho : PD X o td) (hi : PD X i ti) (hv : PD X value tv) (hs : swapsWith value (some (.Subscript o i pos')) pos.line X.env = pure false := by rfl) :
    PSd X (.Assign [.Subscript o i pos'] value pos) (dDPut td ti tv) := ps_w (ps_dput hu ho hi hv hs) λ D σ H h => by
  obtain ⟨τ,M,Dd,A,h,k1,_⟩ := h
  refine ⟨τ,M,_,A,h,λ v H1 wv M1 kp1 r1 m1 q1 => ⟨τ,M1,_,A.go kp1 m1,q1,λ x H2 w M2 kp2 r2 m2 q2 => ⟨τ,M2,_,A.go (kp1.trans kp2) m2,q2,λ y H3 wy M3 kp3 r3 m3 hq59 => ?_⟩⟩⟩
  obtain ⟨a,kvs,key,ew,hm,ey,hl,q3⟩ := hq59
  subst ew ey
  obtain ⟨l,e,pr⟩ := m3 _ _ hm
  have kp4 : Kp H3 (upd H3 a (.dK (putK l key v))) := Kp.set e (λ _ z => nomatch z) (λ _ _ z => nomatch z)
  refine ⟨a,_,r2,.inl ⟨l,key,e,kW_rep r3,by rw [<- tb_len pr]; exact hl,rfl⟩,?_⟩
  have rv : RepW X.K H3 wv v := (r1.keep kp2).keep kp3
  refine k1 _ _ _ _ (((kp1.trans kp2).trans kp3).trans kp4) (A.go (((kp1.trans kp2).trans kp3).trans kp4) (m3.put (mo := .dic (tput kvs key wv)) kp4 ⟨_,upd_same,?_⟩)) q3
  exact Paired.mapP (tb_put key rv pr) λ p q z => ⟨z.1,z.2.keep kp4⟩
end
end D
set_option Elab.async false
set_option linter.all false
set_option maxRecDepth 100000
set_option maxHeartbeats 4000000
namespace D
open PySem PySem.Spec PyProof.Rows L2
def putW (f : Str) (v : W) : List (Str × W) -> List (Str × W)
  | [] => [(f,v)]
  | (g,x) :: r => if g = f then (g,v) :: r else (g,x) :: putW f v r
abbrev FRep (K : PySem.W.Frag) (H : Hp) : List (Str × W) -> List (Str × V) -> Prop := Paired (λ (p : Str × W) (q : Str × V) => p.1 = q.1 /\ RepW K H p.2 q.2)
theorem fr_lookup {K : PySem.W.Frag} {H : Hp} (f : Str) : ∀ {fs : List (Str × W)} {l : List (Str × V)},FRep K H fs l -> OR (RepW K H) (fs.lookup f) (l.lookup f)
  | _,_,.nil => True.intro
  | _,_,.cons (a := p) (b := q) (l₁ := t1) (l₂ := t2) h t => by
    obtain ⟨pk,pv⟩ := p
    obtain ⟨qk,qv⟩ := q
    obtain ⟨h1,h2⟩ := h
    have h1' : pk = qk := h1
    subst h1'
    rw [List.lookup_cons,List.lookup_cons]
    cases e : (f == pk) with
    | true => exact h2
    | false => exact fr_lookup f t
theorem fr_put {K : PySem.W.Frag} {H : Hp} (f : Str) {w : W} {v : V} (r : RepW K H w v) : ∀ {fs : List (Str × W)} {l : List (Str × V)},FRep K H fs l -> FRep K H (putW f w fs) (putF f v l)
  | _,_,.nil => .cons ⟨rfl,r⟩ .nil
  | _,_,.cons (a := p) (b := q) (l₁ := t1) (l₂ := t2) h t => by
    obtain ⟨pk,pv⟩ := p
    obtain ⟨qk,qv⟩ := q
    obtain ⟨h1,h2⟩ := h
    have h1' : pk = qk := h1
    subst h1'
    show FRep K H (if pk = f then (pk,w) :: t1 else (pk,pv) :: putW f w t1) (if pk = f then (pk,v) :: t2 else (pk,qv) :: putF f v t2)
    by_cases e : pk = f
    · rw [if_pos e,if_pos e]
      exact .cons ⟨rfl,r⟩ t
    · rw [if_neg e,if_neg e]
      exact .cons ⟨rfl,h2⟩ (fr_put f r t)
theorem fr_len {K : PySem.W.Frag} {H : Hp} : ∀ {fs : List (Str × W)} {l : List (Str × V)},FRep K H fs l -> fs.length = l.length
  | _,_,.nil => rfl
  | _,_,.cons _ t => by simp [fr_len t]
theorem FRep.keep {K : PySem.W.Frag} {H H' : Hp} (kp : Kp H H') {fs : List (Str × W)} {l : List (Str × V)} (h : FRep K H fs l) : FRep K H' fs l := Paired.mapP h λ p q z => ⟨z.1,z.2.keep kp⟩
section
variable {X : Cx} {C f : Addr} {o e value : Expr} {es : List Expr} {fn m x : Str} {pos pos' apos p : Pos} {td tv te : TD} {t : TAd} {k : Nat} {fd : FuncData} {ps : List Str} {sp : SpD}
def dFld (C : Addr) (td : TD) (fn : Str) (τ : DS) (M : MH) (Q : QD) : Prop := td τ M λ w M1 => ∃ a fs v,w = .m a /\ M1 a = some (.ins C fs) /\ fs.lookup fn = some v /\ Q v M1
theorem pd_fld (c : Cls X.K C) (n : NoAttr X.K C fn) (he : PD X e td) (hb : attributeBase e fn X.env (eval e X.env) = eval e X.env := by rfl) : PD X (.Attribute e fn pos) (dFld C td fn) := pe_w (pe_fld he hb) λ σ H Q h => by
  obtain ⟨τ,M,Qd,A,h,k⟩ := h
  refine ⟨τ,M,_,A,h,λ x H1 w M1 kp1 r1 m1 hq60 => ?_⟩
  obtain ⟨a,fs,v,ew,hm,hl,q⟩ := hq60
  subst ew
  obtain ⟨dx,l,e,pr⟩ := m1 _ _ hm
  have g := fr_lookup fn pr
  rw [hl] at g
  obtain ⟨b,eb,rb⟩ := OR.some_of g
  exact ⟨a,C,dx,l,b,r1,e,c,n,eb,k _ H1 v M1 kp1 rb m1 q⟩
def dFldPut (C : Addr) (td tv : TD) (fn : Str) (D : Ed) (τ : DS) (M : MH) : Prop := tv τ M λ v M1 => td τ M1 λ w M2 => ∃ a fs,w = .m a /\ M2 a = some (.ins C fs) /\ fs.length < 1000 /\ D.nx τ (updM M2 a (.ins C (putW fn v fs)))
theorem psd_fld (c : Cls X.K C) (n : NoAttr X.K C fn) (ha : PD X o td) (hv : PD X value tv) (hs : swapsWith value (some (.Attribute o fn pos')) pos.line X.env = pure false := by rfl) : PSd X (.Assign [.Attribute o fn pos'] value pos) (dFldPut C td tv fn) := ps_w (ps_fld ha hv hs) λ D σ H h => by
  obtain ⟨τ,M,Dd,A,h,k1,_⟩ := h
  refine ⟨τ,M,_,A,h,λ v H1 wv M1 kp1 r1 m1 q1 => ⟨τ,M1,_,A.go kp1 m1,q1,λ x H2 w M2 kp2 r2 m2 hq61 => ?_⟩⟩
  obtain ⟨a,fs,ew,hm,hl,q2⟩ := hq61
  subst ew
  obtain ⟨dx,l,e,pr⟩ := m2 _ _ hm
  have kp4 : Kp H2 (upd H2 a (.ins C dx (putF fn v l))) := Kp.set e (λ _ z => nomatch z) (λ _ _ z => nomatch z)
  refine ⟨a,C,dx,l,r2,e,c,n,by rw [<- fr_len pr]; exact hl,?_⟩
  refine k1 _ _ _ _ ((kp1.trans kp2).trans kp4) (A.go ((kp1.trans kp2).trans kp4) (m2.put (mo := .ins C (putW fn wv fs)) kp4 ⟨dx,_,upd_same,?_⟩)) q2
  exact FRep.keep kp4 (fr_put fn (r1.keep kp2) pr)
def dMeth (C : Addr) (m : Str) (sp : SpD) (td : TD) (t : TAd) (τ : DS) (M : MH) (Q : QD) : Prop := td τ M λ w M1 => ∃ a fs,w = .m a /\ M1 a = some (.ins C fs) /\ fs.lookup m = none /\ t τ M1 λ ws M2 => sp (w :: ws) M2 Q
theorem imp_meth {σ : St} {H : Hp} {Q : VK} (h : up X.K (dMeth C m sp td t) σ H Q) : tMeth C m (upSp X.K sp) [] E0 (up X.K td) (upA X.K t) σ H Q := by
  obtain ⟨τ,M,Qd,A,h,k⟩ := h
  refine ⟨τ,M,_,A,h,λ x H1 w M1 kp1 r1 m1 hq62 => ?_⟩
  obtain ⟨a,fs,ew,hm,hl,q1⟩ := hq62
  subst ew
  obtain ⟨dx,l,e,pr⟩ := m1 _ _ hm
  have g := fr_lookup m pr
  rw [hl] at g
  refine ⟨a,dx,l,r1,e,OR.none_of g,τ,M1,_,A.go kp1 m1,q1,λ vs H2 ws M2 kp2 r2 m2 q2 => ?_⟩
  exact ⟨.m a :: ws,M2,Qd,by rw [List.append_nil]; exact .cons r1 r2,m2,q2,kgo (kgo k kp1) kp2⟩
theorem pd_meth {pl : Sem Bool} (he : PD X o td) (c : Cls X.K C) (hm : Meth X.K C m f) (F : FnOk X.prog X.w X.K X.mg X.base CX0 k f fd ps (upSp X.K sp)) (hr : Room k X.A) (hb : Binds X.K fd ps []) (ha : PAd X (e :: es) t)
    (ht : eval (.Call (.Attribute o m apos) (e :: es) [] pos) X.env = (do
      let ov <- eval o X.env
      standAt apos.atName
      let (f,first) <- holding [ov] (getMethod ov m pl)
      callWith pos f first (backTo pos (starEach (e :: es) X.env)) (backToKw pos (keywordEach [] X.env))) := by rfl)
    (h1 : isSt e = false := by rfl) (h2 : (es.all λ e => !isSt e) = true := by rfl) : PD X (.Call (.Attribute o m apos) (e :: es) [] pos) (dMeth C m sp td t) :=
  pe_w (pe_meth (E := E0) (dvs := []) he c hm F hr hb .nil pass0 ha (star_ok e es X.env h1) (plain_ok pos X.env es h2) ht) λ σ H Q h => imp_meth h
theorem pd_meth0 {pl : Sem Bool} (he : PD X o td) (c : Cls X.K C) (hm : Meth X.K C m f) (F : FnOk X.prog X.w X.K X.mg X.base CX0 k f fd ps (upSp X.K sp)) (hr : Room k X.A) (hb : Binds X.K fd ps [])
    (ht : eval (.Call (.Attribute o m apos) [] [] pos) X.env = (do
      let ov <- eval o X.env
      standAt apos.atName
      let (f,first) <- holding [ov] (getMethod ov m pl)
      callWith pos f first (backTo pos (starEach [] X.env)) (backToKw pos (keywordEach [] X.env))) := by rfl) : PD X (.Call (.Attribute o m apos) [] [] pos) (dMeth C m sp td dNil) :=
  pe_w (pe_meth0 (E := E0) (dvs := []) he c hm F hr hb .nil pass0 ht) λ σ H Q h => by
    obtain ⟨τ,M,Qd,A,h,k⟩ := h
    refine ⟨τ,M,_,A,h,λ x H1 w M1 kp1 r1 m1 hq63 => ?_⟩
    obtain ⟨a,fs,ew,hm,hl,q1⟩ := hq63
    subst ew
    obtain ⟨dx,l,e,pr⟩ := m1 _ _ hm
    have g := fr_lookup m pr
    rw [hl] at g
    exact ⟨a,dx,l,r1,e,OR.none_of g,.m a :: [],M1,Qd,.cons r1 .nil,m1,q1,kgo k kp1⟩
def dMake (C : Addr) (sp : SpD) (t : TAd) (τ : DS) (M : MH) (Q : QD) : Prop := t τ M λ ws M1 => ∀ a,M1 a = none -> sp (.m a :: ws) (updM M1 a (.ins C [])) (λ v M2 => v = .d .none /\ Q (.m a) M2)
theorem made_abs {H1 : Hp} {M1 : MH} {a dx : Addr} (m1 : MAbs X.K H1 M1) (ha : H1 a = none) (hd : H1 dx = none) (hn : dx ≠ a) : Kp H1 (upd (upd H1 dx (.own a)) a (.ins C dx [])) /\ MAbs X.K (upd (upd H1 dx (.own a)) a (.ins C dx [])) (updM M1 a (.ins C [])) := by
  have k1 : Kp H1 (upd H1 dx (.own a)) := Kp.new hd
  have ha2 : (upd H1 dx (.own a)) a = none := by rw [upd_ne (Ne.symm hn)]; exact ha
  have k2 : Kp (upd H1 dx (.own a)) (upd (upd H1 dx (.own a)) a (.ins C dx [])) := Kp.new ha2
  exact ⟨k1.trans k2,(m1.new hd).put (mo := .ins C []) k2 ⟨dx,[],upd_same,.nil⟩⟩
theorem pd_make (Mk' : Mk X.K C f) (F : FnOk X.prog X.w X.K X.mg X.base CX0 k f fd ps (upSp X.K sp)) (hr : Room (k + 1) X.A) (hg : Gl X x) (hm : X.mg x = some (.ref C)) (hb : Binds X.K fd ps []) (ha : PAd X (e :: es) t) (hdb : (x == ("__debug__" : Str)) = false := by decide)
    (h1 : isSt e = false := by rfl) (h2 : (es.all λ e => !isSt e) = true := by rfl) : PD X (.Call (.Name x p) (e :: es) [] pos) (dMake C sp t) :=
  pe_w (pe_make (E := E0) (dvs := []) Mk' F hr hg hm hb .nil pass0 ha hdb (star_ok e es X.env h1) (plain_ok pos X.env es h2)) λ σ H Q h => by
    obtain ⟨τ,M,Qd,A,h,k⟩ := h
    refine ⟨τ,M,_,A,h,λ vs H1 ws M1 kp1 r1 m1 q1 a dx ha hd hn => ?_⟩
    obtain ⟨kp2,m2⟩ := made_abs (X := X) (C := C) m1 ha hd hn
    exact ⟨.m a :: ws,_,_,by rw [List.append_nil]; exact .cons rfl (r1.keep kp2),m2,q1 a (m1.free ha),λ v H' w M' kp3 r3 m3 hq64 => by
      obtain ⟨e3,q3⟩ := hq64
      subst e3
      simp only [RepW,RepD] at r3
      exact ⟨r3,k _ H' (.m a) M' ((kp1.trans kp2).trans kp3) rfl m3 q3⟩⟩
end
def delM (M : MH) (a : Addr) : MH := λ b => if b = a then none else M b
theorem delM_ne {M : MH} {a b : Addr} (h : b ≠ a) : delM M a b = M b := if_neg h
theorem MAbs.del {K : PySem.W.Frag} {H : Hp} {M : MH} {a : Addr} {o : HO} (m : MAbs K H M) (kp : Kp H (upd H a o)) : MAbs K (upd H a o) (delM M a) := λ b mo hm => by
  by_cases e : b = a
  · subst e; simp [delM] at hm
  · rw [delM_ne e] at hm
    exact (m b mo hm).keep kp λ u z => by rw [upd_ne e]; exact z
def one1 (R : W -> MH -> Prop) (ws : List W) (M : MH) : Prop := match ws with
  | [y] => R y M
  | _ => False
theorem one1_of {R : W -> MH -> Prop} {ws : List W} {M : MH} (h : one1 R ws M) : ∃ y,ws = [y] /\ R y M := by
  match ws,h with
  | [y],h => exact ⟨y,rfl,h⟩
section
variable {X : Cx} {o e : Expr} {pos apos cpos : Pos} {td te : TD}
def dSeal (td : TD) (τ : DS) (M : MH) (Q : QD) : Prop := td τ M λ w M1 => ∃ a ds,w = .m a /\ M1 a = some (.lst (ds.map W.d)) /\ Q (.d (.list ds)) (delM M1 a)
theorem pd_seal (h : PD X e td) : PD X e (dSeal td) := pe_w (pe_frz h) λ σ H Q h => by
  obtain ⟨τ,M,Qd,A,h,k⟩ := h
  refine ⟨τ,M,_,A,h,λ x H1 w M1 kp1 r1 m1 hq65 => ?_⟩
  obtain ⟨a,ds,ew,hm,q⟩ := hq65
  subst ew
  obtain ⟨vs,e,ra⟩ := m1 _ _ hm
  refine ⟨a,_,r1,e,trivial,λ ob => ?_⟩
  have kp2 : Kp H1 (upd H1 a (.frz ob (.lst vs))) := Kp.set e (λ _ z => nomatch z) (λ _ _ z => nomatch z)
  refine k _ _ (.d (.list ds)) (delM M1 a) (kp1.trans kp2) ?_ (m1.del kp2) q
  simp only [RepW,RepD]
  exact ⟨a,vs,r1,.inl ⟨ob,upd_same⟩,ra.data.keep kp2⟩
def dAppend (td te : TD) (τ : DS) (M : MH) (Q : QD) : Prop := td τ M λ w M1 => ∃ a ws,w = .m a /\ M1 a = some (.lst ws) /\ te τ M1 λ y M2 => ∃ ws',M2 a = some (.lst ws') /\ ws'.length < sizeLine /\ Q (.d .none) (updM M2 a (.lst (ws' ++ [y])))
theorem pd_append (ho : PD X o td) (he : PD X e te)
    (hbase : attributeBase o "append" X.env (eval o X.env) = eval o X.env := by rfl)
    (hfew : ((backTo cpos (starEach [e] X.env)).all (λ x => !x.1) && (backToKw cpos (keywordEach [] X.env)).all (λ x => x.1.isSome)
      && decide (([e] : List Expr).length + ([] : List Keyword).length + (if ([] : List Keyword).isEmpty then 0 else 1) < 30)) = true := by rfl)
    (hline : (apos.endLine == cpos.line) = true := by rfl) (hs : isSt e = false := by rfl) : PD X (.Call (.Attribute o "append" apos) [e] [] cpos) (dAppend td te) :=
  pe_w (pe_bm PySem.F.plainAttrs_list PySem.F.slot_list_append PySem.F.type_list_append mt_append ho (pac he pad_nil hs) hbase hfew hline (star_ok e [] X.env hs) rfl) λ σ H Q h => by
    obtain ⟨τ,M,Qd,A,h,k⟩ := h
    refine ⟨τ,M,_,A,h,λ x H1 w M1 kp1 r1 m1 hq66 => ?_⟩
    obtain ⟨a,ws,ew,hm,q1⟩ := hq66
    subst ew
    obtain ⟨vs,ea,ra⟩ := m1 _ _ hm
    have r1' : x = .ref a := r1
    subst r1'
    refine ⟨.inl ⟨rfl,vs,.inl (.inl ea)⟩,τ,M1,one1 (λ y M2 => ∃ ws',M2 a = some (.lst ws') /\ ws'.length < sizeLine /\ Qd (.d .none) (updM M2 a (.lst (ws' ++ [y])))),A.go kp1 m1,q1,λ ys H2 wys M2 kp2 r2 m2 q2 => ?_⟩
    obtain ⟨y,ey,ws',hm2,hl,q4⟩ := one1_of q2
    subst ey
    obtain ⟨v,ev,rv⟩ := repWs1 r2
    subst ev
    obtain ⟨vs2,ea2,ra2⟩ := m2 _ _ hm2
    have kp4 : Kp H2 (upd H2 a (.lst (vs2 ++ [v]))) := Kp.set ea2 (λ _ z => nomatch z) (λ _ _ z => nomatch z)
    refine ⟨a,vs2,v,rfl,rfl,ea2,by rw [<- ra2.length]; exact hl,?_⟩
    exact k _ _ (.d .none) _ ((kp1.trans kp2).trans kp4) (by simp [RepW,RepD]) (m2.put (mo := .lst (ws' ++ [y])) kp4 ⟨_,upd_same,(RepWs.append ra2 (.cons rv .nil)).keep kp4⟩) q4
end
end D
set_option Elab.async false
set_option linter.all false
set_option maxRecDepth 100000
set_option maxHeartbeats 4000000
namespace D
open PySem PySem.Spec PyProof.Rows L2
def RepT (K : PySem.W.Frag) (H : Hp) (d : PyData) (x : V) : Prop := RepD K H d x \/ ∃ a vs ds,d = .list ds /\ x = .ref a /\ H a = some (.lst vs) /\ RepA K H ds vs
inductive DatW (M : MH) : W -> PyData -> Prop
  | d {x : PyData} : DatW M (.d x) x
  | l {a : Addr} {ds : List PyData} (h : M a = some (.lst (ds.map W.d))) : DatW M (.m a) (.list ds)
theorem DatW.sound {K : PySem.W.Frag} {H : Hp} {M : MH} {w : W} {d : PyData} {x : V} (g : DatW M w d) (r : RepW K H w x) (m : MAbs K H M) : RepT K H d x := by
  cases g with
  | d => exact .inl r
  | l h =>
    obtain ⟨vs,e,ra⟩ := m _ _ h
    exact .inr ⟨_,vs,_,rfl,r,e,ra.data⟩
section
variable {X : Cx} {pins : List (Addr × Obj)} {σ : St} {H : Hp} {s : Shared}
theorem thaw (I : Inv X pins σ H s) {d : PyData} {x : V} (h : RepT X.K H d x) : ∃ H',Inv X pins σ H' s /\ RepD X.K H' d x := by
  rcases h with h | ⟨a,vs,ds,rfl,rfl,e,ra⟩
  · exact ⟨H,I,h⟩
  · obtain ⟨o,I2⟩ := I.freeze e trivial
    have kp : Kp H (upd H a (.frz o (.lst vs))) := Kp.set e (λ _ z => nomatch z) (λ _ _ z => nomatch z)
    refine ⟨_,I2,?_⟩
    simp only [RepD]
    exact ⟨a,vs,rfl,.inl ⟨o,upd_same⟩,ra.keep kp⟩
theorem readsT_of (I : Inv X pins σ H s) (d : PyData) {x : V} {u : Value} (h : RepT X.K H d x) (r : RelV x u) (hd : d.hasDict = false) : ∃ as,Reads s.heap u d as := by
  obtain ⟨H',I',h'⟩ := thaw I h
  exact reads_of I' d h' r hd
theorem readsT_repr (I : Inv X pins σ H s) {d : PyData} {x : V} {u : Value} (h : RepT X.K H d x) (r : RelV x u) (ok : reprOk d = true) : ∃ as,Reads s.heap u d as /\ (d.hasDict = true -> sysModules ∉ as) := by
  obtain ⟨H',I',h'⟩ := thaw I h
  exact reads_repr I' h' r ok
end
section
variable {X : Cx}
theorem call_reprT {k : Nat} (hr : Room k X.A) : CallR X (.builtin "repr") (λ xs H Q => ∃ x d,xs = [x] /\ RepT X.K H d x /\ reprOk d = true /\ Q (.str d.shown) H) := by
  intro pins s σ H xs us Q I r h
  obtain ⟨x,d,rfl,rd,ok,q⟩ := h
  obtain ⟨u,rfl,rx⟩ := vals1 r
  obtain ⟨as,rr,hsm⟩ := readsT_repr I rd rx ok
  have ok' := ok
  simp only [reprOk,Bool.and_eq_true,decide_eq_true_eq] at ok'
  obtain ⟨⟨⟨hs,hz⟩,hd⟩,_⟩ := ok'
  have hu := hr.units
  cases rr with
  | none => exact PySem.P.repr_of_none ⟨.str _,H,I.tok _,⟨_,rfl⟩,by simpa [PyData.shown] using q⟩
  | bool b => exact PySem.P.repr_of_bool ⟨.str _,H,I.tok _,⟨_,rfl⟩,by simpa [PyData.shown] using q⟩
  | int i t =>
    refine PySem.P.repr_of_int (by simpa [PyData.showable] using hs) ⟨.str _,H,I.tok _,⟨_,rfl⟩,?_⟩
    rw [PyData.shown] at q
    exact q
  | str i t =>
    refine PySem.P.repr_of_str ⟨.str _,H,I.tok _,⟨_,rfl⟩,?_⟩ (by simpa [PyData.shown] using hz)
    rw [PyData.shown] at q
    exact q
  | list e1 e2 e3 e4 => exact repr_of_reads' (.list e1 e2 e3 e4) hs hsm hr.gd (by omega) (λ _ _ z => z) (λ h' u tk hk => ⟨.str _,H,I.kept hk,⟨_,rfl⟩,q⟩) hz
  | tuple e1 e2 e3 e4 => exact repr_of_reads' (.tuple e1 e2 e3 e4) hs hsm hr.gd (by omega) (λ _ _ z => z) (λ h' u tk hk => ⟨.str _,H,I.kept hk,⟨_,rfl⟩,q⟩) hz
  | dict e1 e2 e3 e4 e5 => exact repr_of_reads' (.dict e1 e2 e3 e4 e5) hs hsm hr.gd (by omega) (λ _ _ z => z) (λ h' u tk hk => ⟨.str _,H,I.kept hk,⟨_,rfl⟩,q⟩) hz
theorem op_eqT {k : Nat} (hr : Room k X.A) : OpR X (compareOp .Eq) (λ x y H Q => ∃ d d',RepT X.K H d x /\ RepT X.K H d' y /\ eqOk2 d d' = true /\ Q (.bl (PyData.eqv d d')) H) := by
  intro pins s σ H x y v u Q I rx ry h
  obtain ⟨d,d',h1,h2,o,q⟩ := h
  rcases eqOk2_cases o with ⟨a,b,e1,e2⟩ | ⟨o1,o2⟩
  · subst e1; subst e2
    rcases h1 with h1 | ⟨_,_,_,z,_⟩
    · rcases h2 with h2 | ⟨_,_,_,z,_⟩
      · exact op_eqD hr pins s σ H x y v u Q I rx ry ⟨_,_,h1,h2,o,q⟩
      · cases z
    · cases z
  simp only [eqOk,Bool.and_eq_true,Bool.not_eq_true'] at o1 o2
  obtain ⟨as,r1⟩ := readsT_of I d h1 rx o1.2
  obtain ⟨bs,r2⟩ := readsT_of I d' h2 ry o2.2
  exact eq_dataH r1 r2 o1.1 o2.1 hr.units ⟨.bl _,H,I,rfl,q⟩
theorem op_neT {k : Nat} (hr : Room k X.A) : OpR X (compareOp .NotEq) (λ x y H Q => ∃ d d',RepT X.K H d x /\ RepT X.K H d' y /\ eqOk2 d d' = true /\ Q (.bl (!PyData.eqv d d')) H) := by
  intro pins s σ H x y v u Q I rx ry h
  obtain ⟨d,d',h1,h2,o,q⟩ := h
  rcases eqOk2_cases o with ⟨a,b,e1,e2⟩ | ⟨o1,o2⟩
  · subst e1; subst e2
    rcases h1 with h1 | ⟨_,_,_,z,_⟩
    · rcases h2 with h2 | ⟨_,_,_,z,_⟩
      · exact op_neD hr pins s σ H x y v u Q I rx ry ⟨_,_,h1,h2,o,q⟩
      · cases z
    · cases z
  simp only [eqOk,Bool.and_eq_true,Bool.not_eq_true'] at o1 o2
  obtain ⟨as,r1⟩ := readsT_of I d h1 rx o1.2
  obtain ⟨bs,r2⟩ := readsT_of I d' h2 ry o2.2
  exact ne_dataH r1 r2 o1.1 o2.1 hr.units ⟨.bl _,H,I,rfl,q⟩
end
section
variable {X : Cx} {K : PySem.W.Frag}
def rdEqT (w w' : W) (M : MH) (Q : QD) : Prop := ∃ d d',DatW M w d /\ DatW M w' d' /\ eqOk2 d d' = true /\ Q (.d (.bool (PyData.eqv d d'))) M
def rdNeT (w w' : W) (M : MH) (Q : QD) : Prop := ∃ d d',DatW M w d /\ DatW M w' d' /\ eqOk2 d d' = true /\ Q (.d (.bool (!PyData.eqv d d'))) M
theorem opd_eqT : OpD K (λ x y H Q => ∃ d d',RepT K H d x /\ RepT K H d' y /\ eqOk2 d d' = true /\ Q (.bl (PyData.eqv d d')) H) rdEqT := by
  intro x y H w w' M Qd Q r1 r2 m ⟨d,d',g1,g2,o1,q⟩ k
  exact ⟨d,d',g1.sound r1 m,g2.sound r2 m,o1,k _ H (.d (.bool _)) M (Kp.refl H) (by simp [RepW,RepD]) m q⟩
theorem opd_neT : OpD K (λ x y H Q => ∃ d d',RepT K H d x /\ RepT K H d' y /\ eqOk2 d d' = true /\ Q (.bl (!PyData.eqv d d')) H) rdNeT := by
  intro x y H w w' M Qd Q r1 r2 m ⟨d,d',g1,g2,o1,q⟩ k
  exact ⟨d,d',g1.sound r1 m,g2.sound r2 m,o1,k _ H (.d (.bool _)) M (Kp.refl H) (by simp [RepW,RepD]) m q⟩
def rdReprT (ws : List W) (M : MH) (Q : QD) : Prop := ∃ w d,ws = [w] /\ DatW M w d /\ reprOk d = true /\ Q (.d (.str d.shown)) M
theorem cd_reprT : CallD K (λ xs H Q => ∃ x d,xs = [x] /\ RepT K H d x /\ reprOk d = true /\ Q (.str d.shown) H) rdReprT := by
  intro vs H ws M Qd Q r m ⟨w,d,e,g,ok,q⟩ k
  subst e
  obtain ⟨v,e1,r1⟩ := repWs1 r
  exact ⟨v,d,e1,g.sound r1 m,ok,k _ H (.d (.str _)) M (Kp.refl H) (by simp [RepW,RepD]) m q⟩
inductive SeqW (M : MH) : W -> List W -> Prop
  | l {ds : List PyData} : SeqW M (.d (.list ds)) (ds.map W.d)
  | t {ds : List PyData} : SeqW M (.d (.tuple ds)) (ds.map W.d)
  | m {a : Addr} {ws : List W} (h : M a = some (.lst ws)) : SeqW M (.m a) ws
theorem SeqW.sound {H : Hp} {M : MH} {w : W} {ws : List W} {x : V} (g : SeqW M w ws) (r : RepW K H w x) (m : MAbs K H M) : ∃ p ys,x = .ref p /\ (SqL K H p ys \/ SqT K H p ys) /\ RepWs K H ws ys := by
  cases g with
  | l =>
    simp only [RepW,RepD] at r
    obtain ⟨a,vs,e,hs,ra⟩ := r
    exact ⟨a,vs,e,.inl hs.sq,ra.ws⟩
  | t =>
    simp only [RepW,RepD] at r
    obtain ⟨a,vs,e,hs,ra⟩ := r
    exact ⟨a,vs,e,.inr hs,ra.ws⟩
  | m h =>
    obtain ⟨vs,e,ra⟩ := m _ _ h
    exact ⟨_,vs,r,.inl (.inl (.inl e)),ra⟩
def rdListOf (ws : List W) (M : MH) (Q : QD) : Prop := ∃ w xs,ws = [w] /\ SeqW M w xs /\ ∀ p,M p = none -> Q (.m p) (updM M p (.lst xs))
theorem cd_listOf : CallD K (λ xs H Q => ∃ p ys,xs = [.ref p] /\ (SqL K H p ys \/ SqT K H p ys) /\ ∀ l,H l = none -> Q (.ref l) (upd H l (.lst ys))) rdListOf := by
  intro vs H ws M Qd Q r m ⟨w,xs,e,g,q⟩ k
  subst e
  obtain ⟨v,e1,r1⟩ := repWs1 r
  obtain ⟨p,ys,ev,hs,rs⟩ := g.sound r1 m
  subst ev
  refine ⟨p,ys,e1,hs,λ l hl => ?_⟩
  have kp : Kp H (upd H l (.lst ys)) := Kp.new hl
  exact k _ _ (.m l) _ kp rfl (m.put (mo := .lst xs) kp ⟨ys,upd_same,rs.keep kp⟩) (q l (m.free hl))
def rdTupleOf (ws : List W) (M : MH) (Q : QD) : Prop := ∃ w ds,ws = [w] /\ SeqW M w (ds.map W.d) /\ Q (.d (.tuple ds)) M
theorem cd_tupleOf : CallD K (λ xs H Q => ∃ p ys,xs = [.ref p] /\ ((SqL K H p ys /\ ∀ l,H l = none -> Q (.ref l) (upd H l (.tup ys))) \/ (SqT K H p ys /\ Q (.ref p) H))) rdTupleOf := by
  intro vs H ws M Qd Q r m ⟨w,ds,e,g,q⟩ k
  subst e
  obtain ⟨v,e1,r1⟩ := repWs1 r
  obtain ⟨p,ys,ev,hs,rs⟩ := g.sound r1 m
  subst ev
  rcases hs with hs | hs
  · refine ⟨p,ys,e1,.inl ⟨hs,λ l hl => ?_⟩⟩
    have kp : Kp H (upd H l (.tup ys)) := Kp.new hl
    refine k _ _ (.d (.tuple ds)) M kp ?_ (m.new hl) q
    simp only [RepW,RepD]
    exact ⟨l,ys,rfl,.inl (.inl upd_same),rs.data.keep kp⟩
  · refine ⟨p,ys,e1,.inr ⟨hs,?_⟩⟩
    refine k _ _ (.d (.tuple ds)) M (Kp.refl H) ?_ m q
    simp only [RepW,RepD]
    exact ⟨p,ys,rfl,hs,rs.data⟩
inductive TruW (M : MH) : W -> Bool -> Prop
  | n : TruW M (.d .none) false
  | b {k : Bool} : TruW M (.d (.bool k)) k
  | i {k : Int} : TruW M (.d (.int k)) (k != 0)
  | s {z : Str} (h : z.length <= sizeLine) : TruW M (.d (.str z)) ((z.length : Int) != 0)
  | l {ds : List PyData} : TruW M (.d (.list ds)) (!ds.isEmpty)
  | t {ds : List PyData} : TruW M (.d (.tuple ds)) (!ds.isEmpty)
  | m {a : Addr} {ws : List W} (h : M a = some (.lst ws)) : TruW M (.m a) (!ws.isEmpty)
  | dk {a : Addr} {kvs : List (Key × W)} (h : M a = some (.dic kvs)) : TruW M (.m a) (!kvs.isEmpty)
def rdMax2 (ws : List W) (M : MH) (Q : QD) : Prop := ∃ i j,ws = [.d (.int i),.d (.int j)] /\ Q (.d (.int (if j > i then j else i))) M
theorem cd_max2 : CallD K (λ xs H Q => ∃ i j,xs = [V.int i,V.int j] /\ Q (V.int (if j > i then j else i)) H) rdMax2 := by
  intro vs H ws M Qd Q r m ⟨i,j,e,q⟩ k
  subst e
  obtain ⟨v,v',e1,r1,r2⟩ := repWs2 r
  simp only [RepW,RepD] at r1 r2
  subst r1 r2
  exact ⟨i,j,e1,k _ H (.d (.int _)) M (Kp.refl H) (by simp [RepW,RepD]) m q⟩
end
end D
set_option Elab.async false
set_option linter.all false
set_option maxRecDepth 100000
set_option maxHeartbeats 4000000
namespace D
open PySem PySem.Spec PyProof.Rows L2
section
variable {X : Cx} {K : PySem.W.Frag}
def rCatS (K : PySem.W.Frag) : R2 := λ x y H Q => ∃ l b xs zs,x = .ref l /\ y = .ref b /\ SqL K H l xs /\ SqL K H b zs /\ xs.length + zs.length <= sizeLine /\ ∀ p,H p = none -> Q (.ref p) (upd H p (.lst (xs ++ zs)))
theorem op_catS : OpR X (binaryOp .Add) (rCatS X.K) := by
  intro pins s σ H x y v u Q I rx ry h
  obtain ⟨l,b,xs,zs,rfl,rfl,h1,h2,hz,q⟩ := h
  cases rx
  cases ry
  obtain ⟨its,r1,p1,_⟩ := I.list h1
  obtain ⟨its2,r2,p2,_⟩ := I.list h2
  have t1 := p1.isList.typeIs (s := s)
  have t2 := p2.isList.typeIs (s := s)
  obtain ⟨⟨oc,od,odt,osl⟩,n,e1,c1,d1,g1⟩ := p1
  obtain ⟨⟨oc2,od2,odt2,osl2⟩,n2,e2,c2,d2,g2⟩ := p2
  dsimp only at c1 d1 g1 c2 d2 g2
  subst c1 d1 g1 c2 d2 g2
  have hl1 := r1.length
  have hl2 := r2.length
  refine wpAny_binaryOp_concat (T := "list") t1 t2 noFill_list_add seq_list_add ?_
  refine call_meets PySem.F.slot_list_add t1 PySem.F.entry_list_add (PySem.F.args_list_add_2 _ _) (list_addW l b its.toArray its2.toArray n n2 none none osl osl2 (by simp only [List.size_toArray]; omega)) ⟨e1,e2,?_⟩
  have ea : its.toArray ++ its2.toArray = (its ++ its2).toArray := by simp
  rw [ea]
  exact ⟨.ref _,_,I.lnew (t' := s.toks) (r1.append r2) (by rw [List.length_append]; omega),rfl,q _ I.fresh⟩
inductive LstW (M : MH) : W -> List PyData -> Prop
  | d {ds : List PyData} : LstW M (.d (.list ds)) ds
  | m {a : Addr} {ds : List PyData} (h : M a = some (.lst (ds.map W.d))) : LstW M (.m a) ds
theorem LstW.sound {H : Hp} {M : MH} {w : W} {ds : List PyData} {x : V} (g : LstW M w ds) (r : RepW K H w x) (m : MAbs K H M) : ∃ p ys,x = .ref p /\ SqL K H p ys /\ RepA K H ds ys := by
  cases g with
  | d =>
    simp only [RepW,RepD] at r
    obtain ⟨a,vs,e,hs,ra⟩ := r
    exact ⟨a,vs,e,hs.sq,ra⟩
  | m h =>
    obtain ⟨vs,e,ra⟩ := m _ _ h
    exact ⟨_,vs,r,.inl (.inl e),ra.data⟩
def dCat (ta tb : TD) (τ : DS) (M : MH) (Q : QD) : Prop := ta τ M λ w M1 => tb τ M1 λ w' M2 => ∃ xs ys,LstW M2 w xs /\ LstW M2 w' ys /\ xs.length + ys.length <= sizeLine /\ Q (.d (.list (xs ++ ys))) M2
theorem pd_cat {a b : Expr} {pos : Pos} {ta tb : TD} (ha : PD X a ta) (hb : PD X b tb) : PD X (.BinOp a .Add b pos) (dCat ta tb) := pe_w (pe_frz (pe_op op_catS ha hb)) λ σ H Q h => by
  obtain ⟨τ,M,Qd,A,h,k⟩ := h
  refine ⟨τ,M,_,A,h,λ x H1 w M1 kp1 r1 m1 q1 => ⟨τ,M1,_,A.go kp1 m1,q1,λ y H2 w' M2 kp2 r2 m2 hq67 => ?_⟩⟩
  obtain ⟨xs,ys,g1,g2,hz,q⟩ := hq67
  obtain ⟨p,vs,e1,s1,ra1⟩ := g1.sound (r1.keep kp2) m2
  obtain ⟨p',vs',e2,s2,ra2⟩ := g2.sound r2 m2
  refine ⟨p,p',vs,vs',e1,e2,s1,s2,by rw [ra1.length,ra2.length]; exact hz,λ c hc => ?_⟩
  exact imp_frz hc (ra1.append ra2) m2 q (kgo (kgo k kp1) kp2)
theorem repA_ints {H : Hp} : ∀ {ns : List Int} {vs : List V},RepA K H (ns.map PyData.int) vs -> vs = ns.map V.int
  | [],vs,h => by simpa [RepA] using h
  | n :: ns,vs,h => by
    simp only [List.map_cons,RepA] at h
    obtain ⟨v,r,e,h1,h2⟩ := h
    simp only [RepD] at h1
    rw [e,h1,repA_ints h2]
    rfl
end
abbrev TGsd := List W -> DS -> MH -> (DS -> MH -> Prop) -> Prop
def upGs (K : PySem.W.Frag) (g : TGsd) : TGs := λ vs σ H Q => ∃ ws τ M Qd,RepWs K H ws vs /\ Abs K H σ τ M /\ g ws τ M Qd /\ ∀ σ' H' τ' M',Kp H H' -> Abs K H' σ' τ' M' -> Qd τ' M' -> Q σ' H'
abbrev PGsd (X : Cx) (es : List Expr) (g : TGsd) : Prop := PGs X es (upGs X.K g)
theorem pgs_w {X : Cx} {es : List Expr} {g g' : TGs} (h : PGs X es g) (k : ∀ v σ H Q,g' v σ H Q -> g v σ H Q) : PGs X es g' := λ pins s σ H v u Q I r q => h pins s σ H v u Q I r (k v σ H Q q)
section
variable {X : Cx} {pos : Pos} {e : Expr} {es : List Expr}
def gsNil (ws : List W) (τ : DS) (M : MH) (Q : DS -> MH -> Prop) : Prop := ws = [] /\ Q τ M
def gsCons (g : TGd) (gs : TGsd) (ws : List W) (τ : DS) (M : MH) (Q : DS -> MH -> Prop) : Prop := ∃ w r,ws = w :: r /\ g w τ M λ τ' M' => gs r τ' M' Q
theorem pgsd_nil : PGsd X [] gsNil := pgs_w pgs_nil λ vs σ H Q hq68 => by
  obtain ⟨ws,τ,M,Qd,r,A,⟨e,q⟩,k⟩ := hq68
  subst e
  cases r
  exact ⟨rfl,k σ H τ M (Kp.refl H) A q⟩
theorem pgsd_cons {g : TGd} {gs : TGsd} (h1 : PGd X e g) (h2 : PGsd X es gs) (hs : (assignEach (e :: es) X.env).map (·.2) = assign e X.env :: (assignEach es X.env).map (·.2) := by rfl) : PGsd X (e :: es) (gsCons g gs) :=
  pgs_w (pgs_cons h1 h2 hs) λ vs σ H Q hq69 => by
    obtain ⟨ws,τ,M,Qd,r,A,⟨w,wr,ew,q⟩,k⟩ := hq69
    subst ew
    cases r with
    | cons r1 r2 =>
      refine ⟨_,_,rfl,w,τ,M,_,r1,A,q,λ σ1 H1 τ1 M1 kp1 A1 q1 => ?_⟩
      exact ⟨wr,τ1,M1,Qd,RepWs.keep kp1 r2,A1,q1,λ σ2 H2 τ2 M2 kp2 A2 q2 => k σ2 H2 τ2 M2 (kp1.trans kp2) A2 q2⟩
def gT (n : Nat) (gs : TGsd) (w : W) (τ : DS) (M : MH) (Q : DS -> MH -> Prop) : Prop := ∃ ds,w = .d (.tuple ds) /\ ds.length = n /\ gs (ds.map W.d) τ M Q
theorem pgd_tup {k n : Nat} {gs : TGsd} (hc : X.calm = true) (h : PGsd X es gs) (hn : (assignEach es X.env).length = n := by rfl) (hst : (assignEach es X.env).findIdx? (·.1) = none := by rfl) : PGd X (.Tuple es k pos) (gT n gs) :=
  pg_w (pg_tup hc h hn hst) λ v σ H Q hq70 => by
    obtain ⟨w,τ,M,Qd,r,A,⟨ds,ew,hl,q⟩,kk⟩ := hq70
    subst ew
    simp only [RepW,RepD] at r
    obtain ⟨a,vs,ev,hs,ra⟩ := r
    exact ⟨a,vs,ev,hs,by rw [ra.length]; exact hl,ds.map W.d,τ,M,Qd,ra.ws,A,q,kk⟩
def dPar (i j : Nat) (t : TAd) (D : Ed) (τ : DS) (M : MH) : Prop := t τ M λ ws M1 => ∃ v w,ws = [v,w] /\ D.nx ((τ.set i (some v)).set j (some w)) M1
theorem psd_par {i j : Nat} {x y : Str} {a b : Expr} {t : TAd} {px py pt : Pos} {kt k2 pt2} (hc : X.calm = true) (hN : X.N.Nodup) (hi : X.N[i]? = some x) (hj : X.N[j]? = some y) (hij : i ≠ j)
    (hx : X.env.scope.names.lookup x = some .local) (hy : X.env.scope.names.lookup y = some .local) (ha : PAd X [a,b] t)
    (hw : swappedStores [.Tuple [.Name x px,.Name y py] kt pt] (.Tuple [a,b] k2 pt2) X.env = pure (some [x,y]) := by rfl)
    (hs : swapsWithSole [.Tuple [.Name x px,.Name y py] kt pt] (.Tuple [a,b] k2 pt2) pos.line X.env = pure false := by rfl) :
    PSd X (.Assign [.Tuple [.Name x px,.Name y py] kt pt] (.Tuple [a,b] k2 pt2) pos) (dPar i j t) := ps_w (ps_par hc hN hi hj hij hx hy ha hw hs) λ D σ H h => by
  obtain ⟨τ,M,Dd,A,h,k1,_⟩ := h
  refine ⟨τ,M,_,A,h,λ vs H1 ws M1 kp1 r1 m1 hq71 => ?_⟩
  obtain ⟨v,w,ew,q⟩ := hq71
  subst ew
  obtain ⟨u1,u2,e1,r2,r3⟩ := repWs2 r1
  exact ⟨u1,u2,e1,k1 _ H1 _ M1 kp1 (((A.go kp1 m1).set i r2).set j r3) q⟩
end
end D
set_option Elab.async false
set_option linter.all false
set_option maxRecDepth 100000
set_option maxHeartbeats 4000000
namespace D
open PySem PySem.Spec PyProof.Rows L2
structure Mf (K : PySem.W.Frag) (C : Addr) (x qual : Str) (st : Stmt) (ps : List Str) (f : Addr) (fd : FuncData) : Prop where
  fn : Fun K x qual st f fd
  me : Meth K C x f
  bd : Binds K fd ps []
structure Mi (K : PySem.W.Frag) (C : Addr) (qual : Str) (st : Stmt) (ps : List Str) (f : Addr) (fd : FuncData) : Prop where
  fn : Fun K "__init__" qual st f fd
  mi : Mk K C f
  bd : Binds K fd ps []
section
variable {K : PySem.W.Frag} {C : Addr}
theorem mf_mk {x qual : Str} {st : Stmt} {ps : List Str} {f : Addr} {oc : Value} {od an : Option Addr} {osl : Array (Option Value)} {kV doc pm cdv ct : Value} (a : PySem.W.findIn K (.ref C) x = some (some (.ref f))) (i : PySem.W.isFn K (.ref f) = true)
    (l : K.lookup f = some ⟨oc,od,.func (PySem.W.fnOf x qual (defArgs st) (defBody st) (defScope st) .none kV doc pm an cdv ct),osl⟩) (c : PySem.W.codeIn K cdv qual = true) (k : PySem.W.keepIn K (.ref f) = true)
    (b : ∀ (kV doc pm : Value) (an : Option Addr) (cdv ct : Value) (us : List Value),us.length = ps.length -> bindArgs (PySem.W.fnOf x qual (defArgs st) (defBody st) (defScope st) .none kV doc pm an cdv ct) ⟨us,[]⟩ = pure (ps.zip us)) :
    Mf K C x qual st ps f (PySem.W.fnOf x qual (defArgs st) (defBody st) (defScope st) .none kV doc pm an cdv ct) :=
  have F := fun_mk (st := st) l c k
  ⟨F,⟨a,i,k⟩,F.binds b⟩
theorem mi_mk {qual : Str} {st : Stmt} {ps : List Str} {f : Addr} {oc : Value} {od an : Option Addr} {osl : Array (Option Value)} {kV doc pm cdv ct : Value} (a : PySem.W.findIn K (.ref C) "__init__" = some (some (.ref f))) (i : PySem.W.isFn K (.ref f) = true)
    (l : K.lookup f = some ⟨oc,od,.func (PySem.W.fnOf "__init__" qual (defArgs st) (defBody st) (defScope st) .none kV doc pm an cdv ct),osl⟩) (c : PySem.W.codeIn K cdv qual = true) (k : PySem.W.keepIn K (.ref f) = true)
    (mk : PySem.W.makesIn K C = true) (kc : PySem.W.keepIn K (.ref C) = true)
    (b : ∀ (kV doc pm : Value) (an : Option Addr) (cdv ct : Value) (us : List Value),us.length = ps.length -> bindArgs (PySem.W.fnOf "__init__" qual (defArgs st) (defBody st) (defScope st) .none kV doc pm an cdv ct) ⟨us,[]⟩ = pure (ps.zip us)) :
    Mi K C qual st ps f (PySem.W.fnOf "__init__" qual (defArgs st) (defBody st) (defScope st) .none kV doc pm an cdv ct) :=
  have F := fun_mk (st := st) l c k
  ⟨F,⟨mk,a,i,kc⟩,F.binds b⟩
end
section
variable {X : Cx} {pos p : Pos} {e : Expr} {es : List Expr} {t : TAd} {x : Str} {T : String} {r : List V -> Hp -> VK -> Prop} {rd : List W -> MH -> QD -> Prop}
theorem pcT (hc : CallR X (.type T) r) (hd : CallD X.K r rd) (hg : Gl X x) (hm : X.mg x = none) (hv : bootBuiltins x = some (.type T)) (ha : PAd X (e :: es) t) (hn : x ≠ "__name__" := by decide) (hdb : (x == ("__debug__" : Str)) = false := by decide)
    (h1 : isSt e = false := by rfl) (h2 : (es.all λ e => !isSt e) = true := by rfl) : PD X (.Call (.Name x p) (e :: es) [] pos) (dCB rd t) := pd_callTy hc hd hg hm hv ha hn hdb (star_ok e es X.env h1) (plain_ok pos X.env es h2)
end
theorem bb_max : bootBuiltins "max" = some (.builtin "max") := by decide +kernel
end D
set_option Elab.async false
set_option linter.all false
set_option maxRecDepth 100000
set_option maxHeartbeats 4000000
namespace D
open PySem PySem.Spec PyProof.Rows L2
namespace Q
section
variable {X : Cx} {o i e f : Expr} {pos apos cpos : Pos} {td ty tx : TE}
end
section
variable {X : Cx} {o i e f value : Expr} {es : List Expr} {pos pos' apos cpos : Pos} {td ti tx tv : TD} {t : TAd}
theorem pd_newDic  : Jd (PD X (.Dict [] [] pos) dNewDic) := ⟨D.pd_newDic ⟩
theorem pd_din (hu : X.A.units + 1 < cLine) (hi : Jd (PD X i ti)) (ho : Jd (PD X o td)) (hm : behindInMarks .In o = false := by rfl) : Jd (PD X (.Compare i [.In] [o] pos) (dDIn ti td)) := ⟨D.pd_din (hu := hu) (hi := hi.h) (ho := ho.h) (hm := hm)⟩
theorem pd_dget (hu : X.A.units + 1 < cLine) (ho : Jd (PD X o td)) (hi : Jd (PD X i ti)) (hs : NoSl i := by exact λ _ _ => rfl) : Jd (PD X (.Subscript o i pos) (dDGet td ti)) := ⟨D.pd_dget (hu := hu) (ho := ho.h) (hi := hi.h) (hs := hs)⟩
theorem pd_get2 (hu : X.A.units + 1 < cLine) (ho : Jd (PD X o td)) (he : Jd (PD X e ti)) (hf : Jd (PD X f tx)) (m : M2 X o "get" apos e f cpos := by exact ⟨rfl,rfl,rfl,rfl⟩) : Jd (PD X (.Call (.Attribute o "get" apos) [e,f] [] cpos) (dGet2 td ti tx)) := ⟨D.pd_get2 (hu := hu) (ho := ho.h) (he := he.h) (hf := hf.h) (m := m)⟩
theorem psd_dput (hu : X.A.units + 1 < cLine) (ho : Jd (PD X o td)) (hi : Jd (PD X i ti)) (hv : Jd (PD X value tv)) (hs : swapsWith value (some (.Subscript o i pos')) pos.line X.env = pure false := by rfl) : Jd (PSd X (.Assign [.Subscript o i pos'] value pos) (dDPut td ti tv)) := ⟨D.psd_dput (hu := hu) (ho := ho.h) (hi := hi.h) (hv := hv.h) (hs := hs)⟩
end
section
variable {X : Cx} {C f : Addr} {o e value : Expr} {es : List Expr} {fn m x : Str} {pos pos' apos p : Pos} {td tv te : TD} {t : TAd} {k : Nat} {fd : FuncData} {ps : List Str} {sp : SpD}
theorem pd_fld (c : Cls X.K C) (n : NoAttr X.K C fn) (he : Jd (PD X e td)) (hb : attributeBase e fn X.env (eval e X.env) = eval e X.env := by rfl) : Jd (PD X (.Attribute e fn pos) (dFld C td fn)) := ⟨D.pd_fld (c := c) (n := n) (he := he.h) (hb := hb)⟩
theorem psd_fld (c : Cls X.K C) (n : NoAttr X.K C fn) (ha : Jd (PD X o td)) (hv : Jd (PD X value tv)) (hs : swapsWith value (some (.Attribute o fn pos')) pos.line X.env = pure false := by rfl) : Jd (PSd X (.Assign [.Attribute o fn pos'] value pos) (dFldPut C td tv fn)) := ⟨D.psd_fld (c := c) (n := n) (ha := ha.h) (hv := hv.h) (hs := hs)⟩
theorem pd_meth {pl : Sem Bool} (he : Jd (PD X o td)) (c : Cls X.K C) (hm : Meth X.K C m f) (F : FnOk X.prog X.w X.K X.mg X.base CX0 k f fd ps (upSp X.K sp)) (hr : Room k X.A) (hb : Binds X.K fd ps []) (ha : Jd (PAd X (e :: es) t)) (ht : eval (.Call (.Attribute o m apos) (e :: es) [] pos) X.env = (do
      let ov <- eval o X.env
      standAt apos.atName
      let (f,first) <- holding [ov] (getMethod ov m pl)
      callWith pos f first (backTo pos (starEach (e :: es) X.env)) (backToKw pos (keywordEach [] X.env))) := by rfl) (h1 : isSt e = false := by rfl) (h2 : (es.all λ e => !isSt e) = true := by rfl) : Jd (PD X (.Call (.Attribute o m apos) (e :: es) [] pos) (dMeth C m sp td t)) := ⟨D.pd_meth (he := he.h) (c := c) (hm := hm) (F := F) (hr := hr) (hb := hb) (ha := ha.h) (ht := ht) (h1 := h1) (h2 := h2)⟩
theorem pd_meth0 {pl : Sem Bool} (he : Jd (PD X o td)) (c : Cls X.K C) (hm : Meth X.K C m f) (F : FnOk X.prog X.w X.K X.mg X.base CX0 k f fd ps (upSp X.K sp)) (hr : Room k X.A) (hb : Binds X.K fd ps []) (ht : eval (.Call (.Attribute o m apos) [] [] pos) X.env = (do
      let ov <- eval o X.env
      standAt apos.atName
      let (f,first) <- holding [ov] (getMethod ov m pl)
      callWith pos f first (backTo pos (starEach [] X.env)) (backToKw pos (keywordEach [] X.env))) := by rfl) : Jd (PD X (.Call (.Attribute o m apos) [] [] pos) (dMeth C m sp td dNil)) := ⟨D.pd_meth0 (he := he.h) (c := c) (hm := hm) (F := F) (hr := hr) (hb := hb) (ht := ht)⟩
theorem pd_make (Mk' : Mk X.K C f) (F : FnOk X.prog X.w X.K X.mg X.base CX0 k f fd ps (upSp X.K sp)) (hr : Room (k + 1) X.A) (hg : Gl X x) (hm : X.mg x = some (.ref C)) (hb : Binds X.K fd ps []) (ha : Jd (PAd X (e :: es) t)) (hdb : (x == ("__debug__" : Str)) = false := by decide) (h1 : isSt e = false := by rfl) (h2 : (es.all λ e => !isSt e) = true := by rfl) : Jd (PD X (.Call (.Name x p) (e :: es) [] pos) (dMake C sp t)) := ⟨D.pd_make (Mk' := Mk') (F := F) (hr := hr) (hg := hg) (hm := hm) (hb := hb) (ha := ha.h) (hdb := hdb) (h1 := h1) (h2 := h2)⟩
end
section
variable {X : Cx} {o e : Expr} {pos apos cpos : Pos} {td te : TD}
theorem pd_seal (h : Jd (PD X e td)) : Jd (PD X e (dSeal td)) := ⟨D.pd_seal (h := h.h)⟩
theorem pd_append (ho : Jd (PD X o td)) (he : Jd (PD X e te)) (hbase : attributeBase o "append" X.env (eval o X.env) = eval o X.env := by rfl) (hfew : ((backTo cpos (starEach [e] X.env)).all (λ x => !x.1) && (backToKw cpos (keywordEach [] X.env)).all (λ x => x.1.isSome)
      && decide (([e] : List Expr).length + ([] : List Keyword).length + (if ([] : List Keyword).isEmpty then 0 else 1) < 30)) = true := by rfl) (hline : (apos.endLine == cpos.line) = true := by rfl) (hs : isSt e = false := by rfl) : Jd (PD X (.Call (.Attribute o "append" apos) [e] [] cpos) (dAppend td te)) := ⟨D.pd_append (ho := ho.h) (he := he.h) (hbase := hbase) (hfew := hfew) (hline := hline) (hs := hs)⟩
end
section
variable {X : Cx} {pins : List (Addr × Obj)} {σ : St} {H : Hp} {s : Shared}
end
section
variable {X : Cx}
end
section
variable {X : Cx} {K : PySem.W.Frag}
end
section
variable {X : Cx} {K : PySem.W.Frag}
theorem pd_cat {a b : Expr} {pos : Pos} {ta tb : TD} (ha : Jd (PD X a ta)) (hb : Jd (PD X b tb)) : Jd (PD X (.BinOp a .Add b pos) (dCat ta tb)) := ⟨D.pd_cat (ha := ha.h) (hb := hb.h)⟩
end
section
variable {X : Cx} {pos : Pos} {e : Expr} {es : List Expr}
theorem pgsd_nil  : Jd (PGsd X [] gsNil) := ⟨D.pgsd_nil ⟩
theorem pgsd_cons {g : TGd} {gs : TGsd} (h1 : Jd (PGd X e g)) (h2 : Jd (PGsd X es gs)) (hs : (assignEach (e :: es) X.env).map (·.2) = assign e X.env :: (assignEach es X.env).map (·.2) := by rfl) : Jd (PGsd X (e :: es) (gsCons g gs)) := ⟨D.pgsd_cons (h1 := h1.h) (h2 := h2.h) (hs := hs)⟩
theorem pgd_tup {k n : Nat} {gs : TGsd} (hc : X.calm = true) (h : Jd (PGsd X es gs)) (hn : (assignEach es X.env).length = n := by rfl) (hst : (assignEach es X.env).findIdx? (·.1) = none := by rfl) : Jd (PGd X (.Tuple es k pos) (gT n gs)) := ⟨D.pgd_tup (hc := hc) (h := h.h) (hn := hn) (hst := hst)⟩
theorem psd_par {i j : Nat} {x y : Str} {a b : Expr} {t : TAd} {px py pt : Pos} {kt k2 pt2} (hc : X.calm = true) (hN : X.N.Nodup) (hi : X.N[i]? = some x) (hj : X.N[j]? = some y) (hij : i ≠ j) (hx : X.env.scope.names.lookup x = some .local) (hy : X.env.scope.names.lookup y = some .local) (ha : Jd (PAd X [a,b] t)) (hw : swappedStores [.Tuple [.Name x px,.Name y py] kt pt] (.Tuple [a,b] k2 pt2) X.env = pure (some [x,y]) := by rfl) (hs : swapsWithSole [.Tuple [.Name x px,.Name y py] kt pt] (.Tuple [a,b] k2 pt2) pos.line X.env = pure false := by rfl) : Jd (PSd X (.Assign [.Tuple [.Name x px,.Name y py] kt pt] (.Tuple [a,b] k2 pt2) pos) (dPar i j t)) := ⟨D.psd_par (hc := hc) (hN := hN) (hi := hi) (hj := hj) (hij := hij) (hx := hx) (hy := hy) (ha := ha.h) (hw := hw) (hs := hs)⟩
end
section
variable {K : PySem.W.Frag} {C : Addr}
end
section
variable {X : Cx} {pos p : Pos} {e : Expr} {es : List Expr} {t : TAd} {x : Str} {T : String} {r : List V -> Hp -> VK -> Prop} {rd : List W -> MH -> QD -> Prop}
theorem pcT (hc : CallR X (.type T) r) (hd : CallD X.K r rd) (hg : Gl X x) (hm : X.mg x = none) (hv : bootBuiltins x = some (.type T)) (ha : Jd (PAd X (e :: es) t)) (hn : x ≠ "__name__" := by decide) (hdb : (x == ("__debug__" : Str)) = false := by decide) (h1 : isSt e = false := by rfl) (h2 : (es.all λ e => !isSt e) = true := by rfl) : Jd (PD X (.Call (.Name x p) (e :: es) [] pos) (dCB rd t)) := ⟨D.pcT (hc := hc) (hd := hd) (hg := hg) (hm := hm) (hv := hv) (ha := ha.h) (hn := hn) (hdb := hdb) (h1 := h1) (h2 := h2)⟩
end
end Q
end D
set_option Elab.async false
set_option linter.all false
set_option maxRecDepth 100000
set_option maxHeartbeats 4000000
namespace D
open PySem PySem.Spec PyProof.Rows L2
def Asc (z : Str) : Prop := ∀ c ∈ z.cps.toList,c < 128
theorem asc_app {x y : Str} (hx : Asc x) (hy : Asc y) : Asc (x ++ y) := by
  intro c hc
  have e : (x ++ y).cps.toList = x.cps.toList ++ y.cps.toList := by show (x.cps ++ y.cps).toList = _; simp
  rw [e] at hc
  rcases List.mem_append.mp hc with h | h
  · exact hx c h
  · exact hy c h
def Tx (n : Nat) (d : PyData) : Prop := ∃ z : Str,d = .str z /\ z.length <= n /\ Asc z
theorem asc_dec {z : Str} (h : z.cps.all (· < 128) = true) : Asc z := by
  intro c hc
  have := Array.all_eq_true_iff_forall_mem.mp h c (by simpa using hc)
  simpa using this
theorem asc_b {z : Str} (h : Asc z) : ascB z = true := by
  unfold ascB
  rw [Array.all_eq_true_iff_forall_mem]
  intro c hc
  exact decide_eq_true (h c (by simpa using hc))
theorem log2_small {n : Nat} (h : n < 2 ^ 100) : n.log2 < 1920 := by
  by_cases h0 : n = 0
  · subst h0; decide
  · exact Nat.lt_of_lt_of_le ((Nat.log2_lt h0).mpr h) (by decide)
theorem few {n : Nat} (h : n <= 1000) : n <= sizeLine := by have := s16; omega
end D
set_option Elab.async false
set_option linter.all false
set_option maxRecDepth 100000
set_option maxHeartbeats 4000000
namespace D
open PySem PySem.Spec PyProof.Rows L2
section
variable {X : Cx} {pins : List (Addr × Obj)} {σ : St} {H H0 : Hp} {s s0 : Shared}
theorem Inv.swap {a : Addr} {u u' : HO} (I : Inv X pins σ H s) (h : H a = some u) (n1 : ∀ xs,u ≠ .tup xs) (n2 : ∀ x,u ≠ .own x) (b1 : ∀ xs,X.H₀ a ≠ some (.tup xs)) (b2 : ∀ o v,X.H₀ a ≠ some (.frz o v)) (b3 : ∀ ps,X.H₀ a ≠ some (.tbl ps))
    (new : ObjOk X.prog X.w (upd H a u') s.heap a u') : Inv X pins σ (upd H a u') s := by
  have nn : ∀ b,H b = none -> b ≠ a := λ b e z => by rw [z,h] at e; cases e
  refine ⟨I.ok,I.os,I.bare,⟨I.base.keep,I.base.slot,λ b ob q n x => ?_,I.base.there,λ b xs q => ?_,λ b ob v q => ?_,λ b ps q => ?_⟩,I.loc,I.cell,?_,λ x c q => ?_,λ p hp => ?_,λ b v q => ?_,I.len⟩
  · have := I.base.free b ob q n x
    rw [upd_ne (nn b this)]; exact this
  · rw [upd_ne (λ z : b = a => b1 xs (by rw [<- z]; exact q))]; exact I.base.tups b xs q
  · rw [upd_ne (λ z : b = a => b2 ob v (by rw [<- z]; exact q))]; exact I.base.frzs b ob v q
  · rw [upd_ne (λ z : b = a => b3 ps (by rw [<- z]; exact q))]; exact I.base.tbls b ps q
  · rw [upd_ne (nn _ I.free)]; exact I.free
  · have := I.freeC x c q
    rw [upd_ne (nn c this)]; exact this
  · obtain ⟨p1,p2,p3⟩ := I.pin p hp
    exact ⟨p1,by rw [upd_ne (nn _ p2)]; exact p2,p3⟩
  · by_cases hb : b = a
    · subst hb
      rw [upd_same] at q
      cases q
      exact new
    · rw [upd_ne hb] at q
      refine (I.hok b v q).stay (λ _ _ _ q => q) (λ c r => ?_) λ c xs r => ?_
      · rw [upd_ne (λ z => by rw [z,h] at r; exact n2 _ (Option.some.inj r))]; exact r
      · rw [upd_ne (λ z => by rw [z,h] at r; exact n1 _ (Option.some.inj r))]; exact r
theorem base_of {a : Addr} {l : List (Key × V)} (I : Inv X pins σ H s) (h : H a = some (.dK l)) : (∀ xs,X.H₀ a ≠ some (.tup xs)) /\ (∀ o v,X.H₀ a ≠ some (.frz o v)) /\ ∀ ps,X.H₀ a ≠ some (.tbl ps) := by
  refine ⟨λ xs e => ?_,λ o v e => ?_,λ ps e => ?_⟩
  · have := I.base.tups a xs e; rw [h] at this; cases this
  · have := I.base.frzs a o v e; rw [h] at this; cases this
  · obtain ⟨m,this⟩ := I.base.tbls a ps e; rw [h] at this; cases this
theorem Inv.still {a : Addr} {l : List (Key × V)} (I : Inv X pins σ H s) (h : H a = some (.dK l)) : ∃ o,Inv X pins σ (upd H a (.frz o (.frz o (.dK l)))) s := by
  have f : Fz (.dK l) := trivial
  obtain ⟨o,ho⟩ := (I.hok a _ h).obj f
  obtain ⟨b1,b2,b3⟩ := base_of I h
  exact ⟨o,Inv.swap I h (λ _ z => nomatch z) (λ _ z => nomatch z) b1 b2 b3 ⟨ho,ho,(I.hok a _ h).anyH f⟩⟩
theorem Inv.again {σ0 : St} {a : Addr} {o : Obj} {l : List (Key × V)} (I0 : Inv X pins σ0 H0 s0) (h0 : H0 a = some (.dK l)) (I : Inv X pins σ H s) (h : H a = some (.frz o (.frz o (.dK l)))) : Inv X pins σ (upd H a (.dK l)) s := by
  have f : Fz (.dK l) := trivial
  obtain ⟨b1,b2,b3⟩ := base_of I0 h0
  exact Inv.swap I h (λ _ z => nomatch z) (λ _ z => nomatch z) b1 b2 b3 ((I.hok a _ h).2.2.anyH f)
end
def tStill (t : TE) : TE := λ σ H Q => ∃ a l,H a = some (.dK l) /\ ∀ o,t σ (upd H a (.frz o (.frz o (.dK l)))) λ v H' => H' a = some (.frz o (.frz o (.dK l))) /\ Q v (upd H' a (.dK l))
theorem pe_still {X : Cx} {e : Expr} {t : TE} (h : PE X e t) : PE X e (tStill t) := by
  intro pins s σ H Q I ⟨a,l,ha,q⟩
  obtain ⟨o,I1⟩ := Inv.still I ha
  exact thn (h pins s σ _ _ I1 (q o)) λ v s1 ⟨x,H',I2,r,e,q2⟩ => ⟨x,_,Inv.again I ha I2 e,r,q2⟩
section
variable {K : PySem.W.Frag} {H : Hp} {a : Addr} {o : Obj} {l : List (Key × V)}
theorem Kp.back (h : H a = some (.frz o (.frz o (.dK l)))) : (∀ b xs,H b = some (.tup xs) -> upd H a (.dK l) b = some (.tup xs)) /\ (∀ b ob ys,H b = some (.frz ob (.lst ys)) -> upd H a (.dK l) b = some (.frz ob (.lst ys))) /\ ∀ b ob ys,H b = some (.frz ob (.dK ys)) -> upd H a (.dK l) b = some (.frz ob (.dK ys)) := by
  refine ⟨λ b xs e => ?_,λ b ob ys e => ?_,λ b ob ys e => ?_⟩ <;>
  · rw [upd_ne (λ z => by rw [z,h] at e; cases e)]; exact e
theorem SqT.back {b : Addr} {vs : List V} (h : H a = some (.frz o (.frz o (.dK l)))) (r : SqT K H b vs) : SqT K (upd H a (.dK l)) b vs := by
  rcases r with (r | ⟨ob,r⟩) | r
  · exact .inl (.inl ((Kp.back h).1 _ _ r))
  · refine .inl (.inr ⟨ob,?_⟩)
    rw [upd_ne (λ z => by rw [z,h] at r; cases r)]; exact r
  · exact .inr r
theorem SqF.back {b : Addr} {vs : List V} (h : H a = some (.frz o (.frz o (.dK l)))) (r : SqF K H b vs) : SqF K (upd H a (.dK l)) b vs := by
  rcases r with ⟨ob,r⟩ | r
  · exact .inl ⟨ob,(Kp.back h).2.1 _ _ _ r⟩
  · exact .inr r
mutual
theorem RepD.back (h : H a = some (.frz o (.frz o (.dK l)))) : ∀ {d : PyData} {v : V},RepD K H d v -> RepD K (upd H a (.dK l)) d v
  | .none,v,r => by simp only [RepD] at r ⊢; exact r
  | .bool b,v,r => by simp only [RepD] at r ⊢; exact r
  | .int i,v,r => by simp only [RepD] at r ⊢; exact r
  | .str x,v,r => by simp only [RepD] at r ⊢; exact r
  | .list ds,v,r => by
    simp only [RepD] at r ⊢
    obtain ⟨b,vs,e,q,r⟩ := r
    exact ⟨b,vs,e,SqF.back h q,RepA.back h r⟩
  | .tuple ds,v,r => by
    simp only [RepD] at r ⊢
    obtain ⟨b,vs,e,q,r⟩ := r
    exact ⟨b,vs,e,SqT.back h q,RepA.back h r⟩
  | .dict kvs,v,r => by
    simp only [RepD] at r ⊢
    obtain ⟨b,ob,m,e,q,r⟩ := r
    exact ⟨b,ob,m,e,(Kp.back h).2.2 _ _ _ q,RepK.back h r⟩
theorem RepA.back (h : H a = some (.frz o (.frz o (.dK l)))) : ∀ {ds : List PyData} {vs : List V},RepA K H ds vs -> RepA K (upd H a (.dK l)) ds vs
  | [],vs,r => by simp only [RepA] at r ⊢; exact r
  | d :: ds,vs,r => by
    simp only [RepA] at r ⊢
    obtain ⟨v,q,e,h1,h2⟩ := r
    exact ⟨v,q,e,RepD.back h h1,RepA.back h h2⟩
theorem RepK.back (h : H a = some (.frz o (.frz o (.dK l)))) : ∀ {ds : List (PyData × PyData)} {m : List (Key × V)},RepK K H ds m -> RepK K (upd H a (.dK l)) ds m
  | [],m,r => by simp only [RepK] at r ⊢; exact r
  | (key,d) :: ds,m,r => by
    simp only [RepK] at r ⊢
    obtain ⟨k',v,q,e,ek,h1,h2⟩ := r
    exact ⟨k',v,q,e,ek,RepD.back h h1,RepK.back h h2⟩
end
theorem RepW.back (h : H a = some (.frz o (.frz o (.dK l)))) : ∀ {w : W} {v : V},RepW K H w v -> RepW K (upd H a (.dK l)) w v
  | .d _,_,r => RepD.back h r
  | .m _,_,r => r
  | .t _,_,r => r
theorem MAbs.back {M : MH} {kvs : List (Key × W)} (h : H a = some (.frz o (.frz o (.dK l)))) (m : MAbs K H M) (e : M a = some (.fdic kvs)) : MAbs K (upd H a (.dK l)) (updM M a (.dic kvs)) := λ b mo q => by
  by_cases hb : b = a
  · subst hb
    rw [updM_same] at q
    cases q
    obtain ⟨o',l',e',pr⟩ := m _ _ e
    rw [h] at e'
    cases e'
    exact ⟨l,upd_same,Paired.mapP pr λ p q z => ⟨z.1,RepW.back h z.2⟩⟩
  · rw [updM_ne hb] at q
    have r := m b mo q
    cases mo with
    | lst ws => obtain ⟨vs,e,r⟩ := r; exact ⟨vs,by rw [upd_ne hb]; exact e,Paired.mapP r λ _ _ z => RepW.back h z⟩
    | dic kvs => obtain ⟨l,e,r⟩ := r; exact ⟨l,by rw [upd_ne hb]; exact e,Paired.mapP r λ p q z => ⟨z.1,RepW.back h z.2⟩⟩
    | dct kvs => obtain ⟨l,e,r⟩ := r; exact ⟨l,by rw [upd_ne hb]; exact e,Paired.mapP r λ p q z => ⟨z.1,RepW.back h z.2⟩⟩
    | fdic kvs => obtain ⟨o,l,e,r⟩ := r; exact ⟨o,l,by rw [upd_ne hb]; exact e,Paired.mapP r λ p q z => ⟨z.1,RepW.back h z.2⟩⟩
    | ins C fs => obtain ⟨dx,l,e,r⟩ := r; exact ⟨dx,l,by rw [upd_ne hb]; exact e,Paired.mapP r λ p q z => ⟨z.1,RepW.back h z.2⟩⟩
    | tup ws => obtain ⟨vs,e,r⟩ := r; exact ⟨vs,by rw [upd_ne hb]; exact e,Paired.mapP r λ _ _ z => RepW.back h z⟩
    | flst ws => obtain ⟨o,vs,e,r⟩ := r; exact ⟨o,vs,by rw [upd_ne hb]; exact e,Paired.mapP r λ _ _ z => RepW.back h z⟩
    | exc C fs =>
      obtain ⟨φ,dct,e,p,r⟩ := r
      refine ⟨φ,dct,by rw [upd_ne hb]; exact e,p,?_⟩
      rcases r with r | ⟨dx,o',l',e1,e2,r⟩
      · exact .inl r
      · exact .inr ⟨dx,o',l',e1,by rw [upd_ne (λ z => by rw [z,h] at e2; cases e2)]; exact e2,Paired.mapP r λ p q z => ⟨z.1,RepW.back h z.2⟩⟩
end
def dStill (t : TD) (τ : DS) (M : MH) (Q : QD) : Prop := ∃ a kvs,M a = some (.dic kvs) /\ t τ (updM M a (.fdic kvs)) λ v M' => M' a = some (.fdic kvs) /\ Q v (updM M' a (.dic kvs))
theorem pd_still {X : Cx} {e : Expr} {t : TD} (h : PD X e t) : PD X e (dStill t) := pe_w (pe_still h) λ σ H Q hq72 => by
  obtain ⟨τ,M,Qd,A,⟨a,kvs,hm,q⟩,k⟩ := hq72
  obtain ⟨l,e,pr⟩ := A.mem _ _ hm
  refine ⟨a,l,e,λ o => ?_⟩
  have kp : Kp H (upd H a (.frz o (.frz o (.dK l)))) := Kp.set e (λ _ z => nomatch z) (λ _ _ z => nomatch z)
  have m1 : MAbs X.K (upd H a (.frz o (.frz o (.dK l)))) (updM M a (.fdic kvs)) := A.mem.put (mo := .fdic kvs) kp ⟨o,l,upd_same,Paired.mapP pr λ p q z => ⟨z.1,z.2.keep kp⟩⟩
  refine ⟨τ,_,_,A.go kp m1,q,λ v H' w M' kp' r' m' hq73 => ?_⟩
  obtain ⟨h1,q1⟩ := hq73
  have e' := kp'.frz a o _ upd_same
  refine ⟨e',k _ _ w _ ⟨λ b xs z => ?_,λ b ob u z => ?_⟩ (RepW.back e' r') (MAbs.back e' m' h1) q1⟩
  · have hb : b ≠ a := λ y => by rw [y,e] at z; cases z
    rw [upd_ne hb]
    exact kp'.tup b xs (by rw [upd_ne hb]; exact z)
  · have hb : b ≠ a := λ y => by rw [y,e] at z; cases z
    rw [upd_ne hb]
    exact kp'.frz b ob u (by rw [upd_ne hb]; exact z)
end D
set_option Elab.async false
set_option linter.all false
set_option maxRecDepth 100000
set_option maxHeartbeats 4000000
namespace D
open PySem PySem.Spec PyProof.Rows L2
section
variable {X : Cx} {pins : List (Addr × Obj)} {σ : St} {H : Hp} {s : Shared}
theorem Inv.trackT {D : Addr} {ys : List V} {us : List Value} {n : Nat} (I : Inv X pins σ H s) (e : s.heap.get? D = some { cls := .type "tuple",data := .seq us.toArray n }) (hn : H D = none) (hv : Vals ys us) (hz : ys.length <= sizeLine)
    (h0 : D ∈ X.ex \/ X.s₀.heap.objs.size <= D) (hL : D ≠ X.env.locals) (hc : ∀ x c,X.env.cells.lookup x = some c -> c ≠ D) (hp : ∀ p ∈ X.pn ++ pins,p.1 ≠ D) : Inv X pins σ (upd H D (.tup ys)) s := by
  have ne : ∀ b u,H b = some u -> b ≠ D := λ b u q => ne_of_none q hn
  refine I.step (h' := s.heap) (g' := s.gens) (d' := s.drawn) (t' := s.toks) (ch := [D]) (λ b hb => ?_) (λ b o _ _ _ q _ => q) (λ b o _ _ _ q _ => ⟨o.slots,q⟩) (λ b o hb q n => ?_) (λ b o _ q => ⟨o,q⟩)
    (λ b xs q => by rw [upd_ne (ne b _ q)]; exact q) (λ b o u q => by rw [upd_ne (ne b _ q)]; exact q) (λ b ps q => ⟨#[],by rw [upd_ne (ne b _ q),q]; simp⟩) (λ m hm => hm) (λ b u q => ?_) I.bare
  · have e : b = D := by simpa using hb
    subst e
    exact ⟨h0,hL,hc,hp⟩
  · rw [upd_ne (λ z => hb (by simp [z]))]; exact n
  · by_cases hb : b = D
    · subst hb
      rw [upd_same] at q
      cases q
      exact ⟨hz,us,hv,⟨_,e,rfl,n,rfl⟩⟩
    · rw [upd_ne hb] at q
      exact (I.hok b u q).stay (λ _ _ _ q => q) (λ c r => by rw [upd_ne (ne c _ r)]; exact r) λ c xs r => by rw [upd_ne (ne c _ r)]; exact r
end
abbrev stillH (o : Obj) (l : List (Key × V)) : HO := .frz o (.frz o (.dK l))
theorem still_at {P : Program} {w : World} {H : Hp} {h : Heap} {a : Addr} {o : Obj} {l : List (Key × V)} (ok : HOk P w H h) (e : H a = some (stillH o l)) : (a == sysModules) = false /\ ∃ vs es ep,KV l vs /\ o.data = .dict es ep /\ h.DictAt (mixKind P w) a vs ep := by
  obtain ⟨ho,_,z,hd,vs,rel,o',es,ep,h1,h2,h3,h4⟩ := ok a _ e
  rw [ho] at h1
  cases h1
  exact ⟨hd,vs,es,ep,rel,h3,o,es,ho,h2,h3,h4⟩
def Itd (a : Addr) (o : Obj) (l : List (Key × V)) : It :=
  ⟨λ i H => H a = some (stillH o l) /\ i < l.length,λ i H x H' => ∃ T kv,l[i]? = some kv /\ H T = none /\ x = .ref T /\ H' = upd H T (.tup [kV kv.1,kv.2]),λ i H => H a = some (stillH o l) /\ l.length <= i⟩
theorem kv_at {κ : Type} [DecidableEq κ] {l : List (κ × V)} {vs : List (κ × Value)} (r : KV l vs) {i : Nat} (h : i < l.length) : ∃ kv k v,l[i]? = some kv /\ vs[i]? = some (k,v) /\ kv.1 = k /\ RelV kv.2 v := by
  unfold KV at r
  induction r generalizing i with
  | nil => simp at h
  | @cons p q ps qs hp t ih =>
    cases i with
    | zero => exact ⟨p,q.1,q.2,rfl,rfl,hp.1,hp.2⟩
    | succ i =>
      obtain ⟨kv,k,v,e1,e2,e3,e4⟩ := ih (i := i) (by simpa using h)
      exact ⟨kv,k,v,by simpa using e1,by simpa using e2,e3,e4⟩
theorem kV_rel {P : Program} {w : World} {k : Key} {u : Value} (h : (mixKind P w).is k u = true) : RelV (kV k) u := by
  cases k with
  | inl i =>
    have h' : Value.isInt i u = true := h
    unfold Value.isInt at h'
    split at h'
    · rename_i j t
      have : j = i := by simpa using h'
      subst this
      exact ⟨t,rfl⟩
    · cases h'
  | inr x =>
    have h' : Value.isStrOf x u = true := h
    unfold Value.isStrOf at h'
    split at h'
    · rename_i j t
      have : j = x := by simpa using h'
      subst this
      exact ⟨t,rfl⟩
    · cases h'
theorem turn_ditems {P : Program} {w : World} {K : PySem.W.Frag} {elts : List Expr} {x1 : Nat} {tpos : Pos} (a it : Addr) (o : Obj) (l : List (Key × V)) (es : Array DictEntry) (ep : Nat) (ho : o.data = .dict es ep) :
    Turn P w K (.Tuple elts x1 tpos) (Itd a o l) [it] it (λ i h => ∃ ok ov,IsItemIter h it a i l.length ep ok ov) where
  mem := by simp
  obj := λ i h st b hb => by
    have e : b = it := by simpa using hb
    subst e
    obtain ⟨ok,ov,st⟩ := st
    exact ⟨_,st,λ v z => by cases z⟩
  keep := λ i h h' ⟨ok,ov,st⟩ k => ⟨ok,ov,k it (by simp) _ st⟩
  item := by
    intro X hP hw hK hc i pins s σ H E I hf ⟨ok,ov,st⟩ ⟨hg,hi⟩
    subst hP hw hK
    obtain ⟨f0,f1,f2,f3,f4,f5⟩ := hf it (by simp)
    obtain ⟨hd,vs,es',ep',rel,ho',da⟩ := still_at I.hok hg
    rw [ho] at ho'
    cases ho'
    obtain ⟨kv,k,v,e1,e2,e3,e4⟩ := kv_at rel hi
    have hl : l.length = vs.length := rel.length
    rw [hl] at st
    refine wpAny_pyNext_items_item st da e2 λ key h' hk st' ht hsz kp => ?_
    refine ⟨_,rfl,wpAny_letOwnedTupleGo_items st' λ h'' st'' sb => ?_⟩
    have T := I.fpOk (Nat.le_refl _) (I.hok.fresh (Nat.le_refl _))
    obtain ⟨t0,t1,t2,t3,t4,t5⟩ := T
    have hit : it < s.heap.objs.size := Heap.lt_size st
    have nT : s.heap.objs.size ≠ it := Nat.ne_of_gt hit
    have I1 : Inv X pins σ H { s with heap := h'' } := I.turned (t' := s.toks) (λ b ob hb e => (sb.2 b hb).trans (kp b ob hb e)) f0 f1 f3 f4 f5
    have eT : h''.get? s.heap.objs.size = some { cls := .type "tuple",data := .seq #[key,v] } := (sb.2 _ nT).trans ht
    have I2 := Inv.trackT (us := [key,v]) (ys := [kV kv.1,kv.2]) I1 eT t0 (.cons (by rw [e3]; exact kV_rel hk) (.cons e4 .nil)) (by simp; have := s16; omega) t3 t1 t4 t5
    refine ⟨.ref s.heap.objs.size,_,I2,rfl,⟨_,kv,e1,t0,rfl,rfl⟩,⟨_,_,by rw [hl]; exact st''⟩,λ b hb => ?_⟩
    have e : b = it := by simpa using hb
    subst e
    rw [upd_ne nT.symm]
    exact f0
  done := by
    intro X hP hw hK hc i pins s σ H E I hf ⟨ok,ov,st⟩ ⟨hg,hi⟩
    subst hP hw hK
    obtain ⟨f0,f1,f2,f3,f4,f5⟩ := hf it (by simp)
    obtain ⟨hd,vs,es',ep',rel,ho',da⟩ := still_at I.hok hg
    rw [ho] at ho'
    cases ho'
    have hl : l.length = vs.length := rel.length
    rw [hl] at st hi
    exact wpAny_pyNext_items_end (I.ok.hd hc) st da (List.getElem?_eq_none hi) λ h' eb => ⟨rfl,I.turned (t' := s.toks) (λ b o hb e => eb b o hb e) f0 f1 f3 f4 f5⟩
  self := λ _ _ _ _ _ ⟨ok,ov,st⟩ h => PySem.W.kcp_self st h
section
variable {X : Cx} {tg o : Expr} {apos cpos : Pos} {td : TE}
def iDItems (td : TE) : TI := λ σ H R => td σ H λ x H1 => ∃ a o l,x = .ref a /\ H1 a = some (stillH o l) /\ R (Itd a o l) H1
theorem pi_ditems {elts : List Expr} {x1 : Nat} {tpos : Pos} (ho : PE X o td) (hbase : attributeBase o "items" X.env (eval o X.env) = eval o X.env := by rfl) (hline : (apos.endLine == cpos.line) = true := by rfl) :
    PI X (.Tuple elts x1 tpos) (.Call (.Attribute o "items" apos) [] [] cpos) (iDItems td) := by
  intro pins s σ H R I h
  refine wpAny_Call_method0_late hbase hline (thn (ho pins s σ H _ I h) λ v s1 hq74 => ?_)
  obtain ⟨x,H1,I1,r1,a,ob,l,ex,hg,q⟩ := hq74
  subst ex
  cases r1
  obtain ⟨hd,vs,es,ep,rel,hdat,da⟩ := still_at I1.hok hg
  have dd : s1.heap.DictOf (mixKind X.prog X.w) a vs := let ⟨o,es,h⟩ := da; ⟨o,es,ep,h⟩
  have hnd : ∀ b,Value.ref a = .ref b -> ∃ ob,s1.heap.get? b = some ob /\ ob.dict = none := λ b e => by
    cases e
    obtain ⟨oo,es',h1,h2,_⟩ := da
    exact ⟨oo,h1,h2.2.1⟩
  refine ⟨"dict", "dict.items",PySem.F.plainAttrs_dict,PySem.F.slot_dict_items,PySem.F.type_dict_items,dd.typeIs,hnd,Calls.callWith_builtin rfl (PySem.evalArgs_none ?_)⟩
  refine call_meetsIn PySem.F.slot_dict_items dd.typeIs PySem.F.entry_dict_items (PySem.F.args_dict_items_1 _) (meets_dict_items (mixKind X.prog X.w) a hd) ⟨⟨vs,dd⟩,?_⟩
  have I2 : Inv X pins σ H1 { s1 with heap := s1.heap.push { cls := .type "dict_items",data := .fields #[.ref a] } } := I1.kept (t' := s1.toks) λ b o e => Heap.get?_push_of_some _ e
  obtain ⟨_,vs2,es2,ep2,rel2,hdat2,da2⟩ := still_at I2.hok hg
  rw [hdat] at hdat2
  cases hdat2
  refine wpAny_pyIter_items ⟨_,Heap.get?_push_size _ rfl,rfl,rfl⟩ da2 ?_
  refine ⟨_,[_],_,_,H1,rfl,I2.kept (t' := s1.toks) λ b o e => Heap.get?_push_of_some _ e,turn_ditems a _ ob l es ep hdat,⟨.none,.none,?_⟩,λ b hb => ?_,q⟩
  · have := Heap.get?_push_size (s1.heap.push { cls := .type "dict_items",data := .fields #[.ref a] }) (o := { cls := .type "dict_itemiterator",data := .fields #[.none,.bool false,.ref a,.int 0 0,.int (vs2.length : Nat) 0,.int (ep : Nat) 0,.none,.none] }) rfl
    rw [rel2.length]
    exact this
  · rw [List.mem_singleton] at hb
    rw [hb]
    exact I2.fpOk (Nat.le_refl _) (I2.hok.fresh (Nat.le_refl _))
end
section
variable {X : Cx} {K : PySem.W.Frag} {tg o : Expr} {apos cpos : Pos} {td : TD}
def pairsW (kds : List (Key × PyData)) : List W := kds.map λ p => .d (.tuple [keyD p.1,p.2])
def dataKV (kds : List (Key × PyData)) : List (Key × W) := kds.map λ p => (p.1,.d p.2)
theorem pr_get {H : Hp} : ∀ {kds : List (Key × PyData)} {l : List (Key × V)},Paired (λ (p : Key × W) (q : Key × V) => p.1 = q.1 /\ RepW K H p.2 q.2) (dataKV kds) l -> l.length = kds.length /\ ∀ (i : Nat) kv,l[i]? = some kv -> ∃ p,kds[i]? = some p /\ p.1 = kv.1 /\ RepD K H p.2 kv.2
  | [],l,h => by
    cases h
    exact ⟨rfl,λ i kv e => by simp at e⟩
  | p :: kds,l,h => by
    cases h with
    | cons r t =>
      obtain ⟨h1,h2⟩ := pr_get t
      refine ⟨by simp [h1],λ i kv e => ?_⟩
      cases i with
      | zero =>
        simp at e
        subst e
        exact ⟨p,rfl,r.1,r.2⟩
      | succ i =>
        obtain ⟨p',e1,e2⟩ := h2 i kv (by simpa using e)
        exact ⟨p',by simpa using e1,e2⟩
def dDItems (td : TD) (τ : DS) (M : MH) (R : List W -> MH -> Prop) : Prop := td τ M λ w M1 => ∃ a kds,w = .m a /\ M1 a = some (.fdic (dataKV kds)) /\ R (pairsW kds) M1
theorem pid_ditems {elts : List Expr} {x1 : Nat} {tpos : Pos} (ho : PD X o td) (hbase : attributeBase o "items" X.env (eval o X.env) = eval o X.env := by rfl) (hline : (apos.endLine == cpos.line) = true := by rfl) :
    PId X (.Tuple elts x1 tpos) (.Call (.Attribute o "items" apos) [] [] cpos) (dDItems td) := pi_w (pi_ditems ho hbase hline) λ σ H R hq75 => by
  obtain ⟨τ,M,Rd,A,h,k⟩ := hq75
  refine ⟨τ,M,_,A,h,λ v H1 w M1 kp r m hq76 => ?_⟩
  obtain ⟨a,kds,ew,hm,q⟩ := hq76
  subst ew
  obtain ⟨ob,l,e,pr⟩ := m _ _ hm
  obtain ⟨hlen,hget⟩ := pr_get pr
  refine ⟨a,ob,l,r,e,k _ H1 _ M1 kp m (λ H2 kp2 i => ?_) q⟩
  have hlw : (pairsW kds).length = l.length := by rw [hlen]; simp [pairsW]
  have e2 := kp2.frz a ob _ e
  refine ⟨λ hi => ⟨e2,by omega⟩,λ hi => ⟨e2,by omega⟩,λ x H' hi hq77 => ?_⟩
  obtain ⟨T,kv,hkv,hT,ex,eH⟩ := hq77
  subst ex eH
  obtain ⟨p,e3,e4,e5⟩ := hget i kv hkv
  have kpn : Kp H2 (upd H2 T (.tup [kV kv.1,kv.2])) := Kp.new hT
  refine ⟨kpn,λ M m => m.new hT,.d (.tuple [keyD p.1,p.2]),by simp [pairsW,e3],?_⟩
  simp only [RepW,RepD,RepA]
  refine ⟨T,_,rfl,.inl (.inl upd_same),_,_,rfl,?_,_,_,rfl,(e5.keep kp2).keep kpn,rfl⟩
  rw [e4]
  cases kv.1 <;> simp [keyD,kV,RepD]
end
theorem bb_sorted : bootBuiltins "sorted" = some (.builtin "sorted") := by decide +kernel
section
variable {X : Cx} {K : PySem.W.Frag}
end
end D
set_option Elab.async false
set_option linter.all false
set_option maxRecDepth 100000
set_option maxHeartbeats 4000000
namespace D
open PySem PySem.Spec PyProof.Rows L2
section
variable {X : Cx} {K : PySem.W.Frag}
end
end D
set_option Elab.async false
set_option linter.all false
set_option maxRecDepth 100000
set_option maxHeartbeats 4000000
namespace D
open PySem PySem.Spec PyProof.Rows L2
namespace Q
section
variable {X : Cx} {pins : List (Addr × Obj)} {σ : St} {H H0 : Hp} {s s0 : Shared}
end
section
variable {K : PySem.W.Frag} {H : Hp} {a : Addr} {o : Obj} {l : List (Key × V)}
end
theorem pd_still {X : Cx} {e : Expr} {t : TD} (h : Jd (PD X e t)) : Jd (PD X e (dStill t)) := ⟨D.pd_still (h := h.h)⟩
section
variable {X : Cx} {pins : List (Addr × Obj)} {σ : St} {H : Hp} {s : Shared}
end
section
variable {X : Cx} {tg o : Expr} {apos cpos : Pos} {td : TE}
end
section
variable {X : Cx} {K : PySem.W.Frag} {tg o : Expr} {apos cpos : Pos} {td : TD}
theorem pid_ditems {elts : List Expr} {x1 : Nat} {tpos : Pos} (ho : Jd (PD X o td)) (hbase : attributeBase o "items" X.env (eval o X.env) = eval o X.env := by rfl) (hline : (apos.endLine == cpos.line) = true := by rfl) : Jd (PId X (.Tuple elts x1 tpos) (.Call (.Attribute o "items" apos) [] [] cpos) (dDItems td)) := ⟨D.pid_ditems (ho := ho.h) (hbase := hbase) (hline := hline)⟩
end
section
variable {X : Cx} {K : PySem.W.Frag}
end
section
variable {X : Cx} {K : PySem.W.Frag}
end
end Q
end D
set_option Elab.async false
set_option linter.all false
set_option maxRecDepth 100000
set_option maxHeartbeats 4000000
namespace D
open PySem PySem.Spec PyProof.Rows L2
section
variable {X : Cx} {pins : List (Addr × Obj)} {σ : St} {H : Hp} {s : Shared} {h' : Heap}
end
section
variable {X : Cx} {a : Expr} {p pos : Pos} {ta : TA}
end
section
variable {X : Cx} {K : PySem.W.Frag} {a : Expr} {p pos : Pos} {t : TAd}
end
section
variable {X : Cx} {K : PySem.W.Frag}
theorem call_dictOf : CallR X (.type "dict") (λ xs H Q => ∃ a kvs,xs = [.ref a] /\ Rd H a (.dK kvs) /\ ∀ p,H p = none -> Q (.ref p) (upd H p (.dK kvs))) := by
  intro pins s σ H xs us Q I r h
  obtain ⟨a,kvs,rfl,hr,q⟩ := h
  obtain ⟨u,rfl,rx⟩ := vals1 r
  cases rx
  exact d_copyOf I hr λ p s' hp I' => ⟨.ref p,_,I',rfl,q p hp⟩
def rdDictOf (ws : List W) (M : MH) (Q : QD) : Prop := ∃ a kvs,ws = [.m a] /\ M a = some (.dic kvs) /\ ∀ p,M p = none -> Q (.m p) (updM M p (.dic kvs))
theorem cd_dictOf : CallD K (λ xs H Q => ∃ a kvs,xs = [.ref a] /\ Rd H a (.dK kvs) /\ ∀ p,H p = none -> Q (.ref p) (upd H p (.dK kvs))) rdDictOf := by
  intro vs H ws M Qd Q r m ⟨a,kvs,e,hm,q⟩ k
  subst e
  obtain ⟨v,e1,r1⟩ := repWs1 r
  have e2 : v = .ref a := r1
  subst e2
  obtain ⟨l,e,pr⟩ := m _ _ hm
  refine ⟨a,l,e1,.inl e,λ p hp => ?_⟩
  have kp : Kp H (upd H p (.dK l)) := Kp.new hp
  exact k _ _ (.m p) _ kp rfl (m.put (mo := .dic kvs) kp ⟨l,upd_same,Paired.mapP pr λ p q z => ⟨z.1,z.2.keep kp⟩⟩) (q p (m.free hp))
end
end D
set_option Elab.async false
set_option linter.all false
set_option maxRecDepth 100000
set_option maxHeartbeats 4000000
namespace S
open PySem PySem.W PyProof.Rows
def go {α : Type} (lt : Nat -> Nat -> Bool) : KasT α -> α
  | .ret a => a
  | .ask i j k => go lt (k (lt i j))
structure Weak (lt : Nat -> Nat -> Bool) : Prop where
  asym : ∀ a b,lt a b = true -> lt b a = false
  tr : ∀ a b c,lt b a = false -> lt c b = false -> lt c a = false
section
variable {lt : Nat -> Nat -> Bool}
def B (lt : Nat -> Nat -> Bool) (a b : Nat) : Prop := lt a b = true \/ (lt a b = false /\ lt b a = false /\ a < b)
abbrev g (p : Array Nat) (i : Nat) : Nat := p.getD i 0
theorem g_eq (p : Array Nat) (i : Nat) : g p i = (p[i]?).getD 0 := by simp [g]
structure Un (p : Array Nat) (N n : Nat) : Prop where
  size : p.size = N
  lo : ∀ i,i < n -> g p i < n
  hi : ∀ i,n <= i -> i < N -> g p i = i
def Up (lt : Nat -> Nat -> Bool) (p : Array Nat) (n : Nat) : Prop := ∀ i j,i < j -> j < n -> B lt (g p i) (g p j)
def Dn (lt : Nat -> Nat -> Bool) (p : Array Nat) (n : Nat) : Prop := ∀ i j,i < j -> j < n -> B lt (g p j) (g p i)
structure Fall (lt : Nat -> Nat -> Bool) (p : Array Nat) (n q : Nat) : Prop where
  q1 : q + 1 <= n
  dn : ∀ i j,i < j -> j < n - 1 - q -> B lt (g p j) (g p i)
  cr : ∀ i j,i < n - 1 - q -> n - 1 - q <= j -> j < n -> lt (g p j) (g p i) = true
  bl : ∀ i j,n - 1 - q <= i -> i < j -> j < n -> B lt (g p i) (g p j) /\ lt (g p i) (g p j) = false
end
end S
set_option Elab.async false
set_option linter.all false
set_option maxRecDepth 100000
set_option maxHeartbeats 4000000
namespace S
open PySem PySem.W PyProof.Rows
def Asks {α : Type} (N : Nat) (R : α -> Prop) : KasT α -> Prop
  | .ret a => R a
  | .ask i j k => i < N /\ j < N /\ ∀ b,Asks N R (k b)
theorem Asks.bind {α β : Type} {N : Nat} {R : α -> Prop} {R' : β -> Prop} {f : α -> KasT β} (hf : ∀ a,R a -> Asks N R' (f a)) : ∀ {t : KasT α},Asks N R t -> Asks N R' (t.bind f)
  | .ret a,h => hf a h
  | .ask i j k,h => ⟨h.1,h.2.1,λ b => Asks.bind hf (h.2.2 b)⟩
theorem go_wp' {α : Type} {N : Nat} {lt : Nat -> Nat -> Bool} {R : α -> Prop} {cmp : Nat -> Nat -> (Bool -> Shared -> Prop) -> Shared -> Prop} {s : Shared} (hc : ∀ i j,i < N -> j < N -> ∀ (C : Bool -> Shared -> Prop),C (lt i j) s -> cmp i j C s) {Q : α -> Shared -> Prop} :
    ∀ t : KasT α,Asks N R t -> Q (go lt t) s -> t.kasWp cmp Q s
  | .ret _,_,h => h
  | .ask i j k,a,h => hc i j a.1 a.2.1 _ (go_wp' hc (k (lt i j)) (a.2.2 _) h)
def Low (N : Nat) (p : Array Nat) : Prop := ∀ i,g p i < N
theorem Low.of {N : Nat} {p : Array Nat} (hN : 1 <= N) (h : ∀ x ∈ p.toList,x < N) : Low N p := λ i => by
  rw [g_eq]
  cases e : p[i]? with
  | none => simp; omega
  | some x => exact h x (by rw [Array.mem_toList_iff]; exact Array.mem_of_getElem? e)
theorem Low.mem {N : Nat} {p : Array Nat} (h : Low N p) : ∀ x ∈ p.toList,x < N := λ x hx => by
  rw [Array.mem_toList_iff] at hx
  obtain ⟨i,hi,e⟩ := Array.mem_iff_getElem.mp hx
  have := h i
  rw [g_eq] at this
  simp [hi] at this
  omega
theorem Low.perm {N : Nat} {p q : Array Nat} (hN : 1 <= N) (h : Low N p) (e : q.Perm p) : Low N q := .of hN λ x hx => h.mem x ((Array.perm_iff_toList_perm.mp e).mem_iff.mp hx)
theorem Low.rev {N i j : Nat} {p : Array Nat} (hN : 1 <= N) (h : Low N p) : Low N (kas_rev p i j) := h.perm hN (mirror_perm _ _ _ _)
section
variable {N : Nat}
theorem asc_asks {p : Array Nat} (h : Low N p) : ∀ f n,Asks N (λ _ => True) (kas_asc p f n)
  | 0,_ => trivial
  | f + 1,n => ⟨h _,h _,λ b => by
    cases b with
    | true => exact trivial
    | false => exact asc_asks h f (n + 1)⟩
theorem desc_asks (hN : 1 <= N) : ∀ (f : Nat) {p : Array Nat} (n q : Nat),Low N p -> Asks N (λ r => Low N r.1) (kas_desc f p n q)
  | 0,p,n,q,h => h
  | f + 1,p,n,q,h => ⟨h _,h _,λ b => by
    cases b with
    | true =>
      simp only [if_true]
      split
      · exact desc_asks hN f (n + 1) 0 (h.rev hN)
      · exact desc_asks hN f (n + 1) 0 h
    | false =>
      simp only [Bool.false_eq_true,if_false]
      refine ⟨h _,h _,λ b => ?_⟩
      cases b with
      | true => exact h
      | false => exact desc_asks hN f (n + 1) (q + 1) h⟩
theorem tail3_asks (hN : 1 <= N) {p : Array Nat} {n m : Nat} (h : Low N p) : Asks N (λ (r : Nat × Array Nat) => Low N r.2) (kas_tail3 n m p) := by
  unfold kas_tail3
  refine Asks.bind (λ k _ => ?_) (asc_asks (h.rev hN) _ _)
  exact (h.rev hN : Low N (kas_rev p 0 n))
theorem descPart_asks (hN : 1 <= N) {p : Array Nat} {n m : Nat} (h : Low N p) : Asks N (λ r => Low N r.2) (kas_descPart n m p) := (desc_asks hN _ _ _ h).bind λ r hr => by
  split
  · exact tail3_asks hN (hr.rev hN)
  · exact tail3_asks hN hr
theorem count_asks (hN : 1 <= N) {p : Array Nat} {m : Nat} (h : Low N p) : Asks N (λ r => Low N r.2) (kas_count m p) := (asc_asks h _ _).bind λ n _ => by
  split
  · exact h
  · split
    · refine ⟨h _,h _,λ b => ?_⟩
      cases b with
      | true => exact h
      | false => exact descPart_asks hN (h.rev hN)
    · exact descPart_asks hN h
theorem place_asks {p : Array Nat} {k : Nat} (h : Low N p) : ∀ f l r,Asks N (λ _ => True) (kas_place p k f l r)
  | 0,_,_ => trivial
  | f + 1,l,r => by
    simp only [kas_place]
    split
    · exact trivial
    · refine ⟨h _,h _,λ b => ?_⟩
      cases b with
      | true => exact place_asks h f _ _
      | false => exact place_asks h f _ _
theorem bin_asks (hN : 1 <= N) : ∀ (f : Nat) {p : Array Nat} (k : Nat),Low N p -> Asks N (λ _ => True) (kas_bin f p k)
  | 0,_,_,_ => trivial
  | f + 1,p,k,h => (place_asks h _ _ _).bind λ l _ => bin_asks hN f (k + 1) (h.perm hN (bubble_perm _ _ _))
theorem sort_asks (hN : 1 <= N) : Asks N (λ _ => True) (kas_sort N) := (count_asks hN (.of hN λ x hx => by simpa using hx)).bind λ r hr => by
  split
  · exact bin_asks hN _ _ hr
  · exact trivial
end
def outOf (lt : Nat -> Nat -> Bool) (n : Nat) : List Nat := if n < 2 then List.range n else (go lt (kas_sort n)).toList
section
variable {prog : Program} {w : World} {A : Around} {E : Value -> Shared -> Prop} {s : Shared}
def midHeap (h : Heap) (a : Addr) (vs : List Value) : Heap := ((h.update a (Obj.mapSeq λ _ => #[])).push (seqObj "tuple" vs.toArray 0)).push (seqObj "list" #[] 0)
def inHeap (h : Heap) (vs : List Value) : Heap := ((h.push (seqObj "list" #[] 0)).update h.objs.size (Obj.mapSeq (· ++ vs.toArray))).push (seqObj "list" vs.toArray 0)
theorem inHeap_old {h : Heap} {vs : List Value} {b : Addr} {o : Obj} (hb : h.get? b = some o) : (inHeap h vs).get? b = some o := by
  have q : b < h.objs.size := Heap.lt_size hb
  have q1 := Nat.ne_of_lt q
  have q2 := Nat.ne_of_lt (Nat.lt_succ_of_lt q)
  unfold inHeap
  rw [Heap.get?_push_ne _ _ _ (by rw [Heap.size_update,size_push']; exact q2),Heap.get?_update_ne _ _ _ _ q1,Heap.get?_push_ne _ _ _ q1]; exact hb
theorem inHeap_size {h : Heap} {vs : List Value} : ((h.push (seqObj "list" #[] 0)).update h.objs.size (Obj.mapSeq (· ++ vs.toArray))).objs.size = h.objs.size + 1 := by rw [Heap.size_update,size_push']
theorem midHeap_old {h : Heap} {a : Addr} {vs : List Value} {b : Addr} {o : Obj} (hb : h.get? b = some o) (hne : b ≠ a) : (midHeap h a vs).get? b = some o := by
  have q : b < h.objs.size := Heap.lt_size hb
  have q1 := Nat.ne_of_lt q
  have q2 := Nat.ne_of_lt (Nat.lt_succ_of_lt q)
  unfold midHeap
  rw [Heap.get?_push_ne _ _ _ (by rw [size_push',Heap.size_update]; exact q2),Heap.get?_push_ne _ _ _ (by rw [Heap.size_update]; exact q1),Heap.get?_update_ne _ _ _ _ hne]; exact hb
theorem midHeap_at {h : Heap} {a : Addr} {vs us : List Value} {n : Nat} (ho : h.get? a = some (seqObj "list" us.toArray n)) : ∃ e,(h.update a (Obj.mapSeq λ _ => (#[] : Array Value))).get? a = some (seqObj "list" #[] e) /\ (midHeap h a vs).get? a = some (seqObj "list" #[] e) := by
  have q : a < h.objs.size := Heap.lt_size ho
  have q1 := Nat.ne_of_lt q
  have q2 := Nat.ne_of_lt (Nat.lt_succ_of_lt q)
  refine ⟨_,get?_update_seq ho λ _ => #[],?_⟩
  unfold midHeap
  rw [Heap.get?_push_ne _ _ _ (by rw [size_push',Heap.size_update]; exact q2),Heap.get?_push_ne _ _ _ (by rw [Heap.size_update]; exact q1)]; exact get?_update_seq ho λ _ => #[]
theorem sort_pure {a : Addr} {vs : List Value} {n : Nat} {κ : SortKind} {lt : Nat -> Nat -> Bool} {P : PySem.Fin -> Shared -> Prop} (ho : s.heap.get? a = some (seqObj "list" vs.toArray n)) (h64 : vs.length < 64)
    (hk : 2 <= vs.length -> ∀ (Q : SortKind -> Shared -> Prop),Q κ { s with heap := midHeap s.heap a vs } -> wpAny (model prog w) A (keyKind' vs.toArray) Q E { s with heap := midHeap s.heap a vs })
    (hc : ∀ i j,i < vs.length -> j < vs.length -> ∀ (C : Bool -> Shared -> Prop),C (lt i j) { s with heap := midHeap s.heap a vs } -> kas_ask prog w A κ vs i j C { s with heap := midHeap s.heap a vs })
    (h : P (.done (.ret .none)) { s with heap := sortedHeap s.heap a vs ((outOf lt vs.length).map λ i => vs.getD i Value.none).toArray }) :
    wpAny (model prog w) A (Builtin.«list.sort» ⟨[.ref a],[]⟩) P E s := by
  have hz : vs.toArray.size = vs.length := by simp
  obtain ⟨e1,o1,o2⟩ := midHeap_at (vs := vs) ho
  rw [list_sort_plain]
  refine wpAny_bind (listItems_at ho rfl (wpAny_bind (listUpdate_at ho rfl (wpAny_bind (seqEpoch_at o1 rfl (wpAny_bind (wpAny_newTuple (wpAny_bind (wpAny_newList (wpAny_holding ?_))))))))))
  show wpAny _ _ _ P E { s with heap := midHeap s.heap a vs }
  dsimp only
  have fits : ∀ {p : Array Nat},p.size = vs.length -> (List.toArray (p.toList.map λ i => vs.getD i Value.none)).size <= sizeLine + 1 := λ {p} hp => by
    rw [List.size_toArray,List.length_map,Array.length_toList,hp,sizeLine_eq]; omega
  by_cases h2 : vs.length < 2
  · rw [if_pos (by rw [hz]; exact h2),if_pos (by rw [hz]; exact h2)]
    refine wpAny_bind (wpAny_pure ?_); rw [StateT.run_pure]; refine wpAny_bind (wpAny_pure ?_); dsimp only
    have out := kat_snds (ks := vs) (vs := vs) rfl (st := SortSt.mk' general' (vs.toArray.zip vs.toArray) #[] 7 none) (p := List.toArray (List.range vs.length)) (by
      have e := kas_range (vs.toArray.zip vs.toArray)
      rw [show (vs.toArray.zip vs.toArray).size = vs.length by simp] at e
      exact e.symm)
    rw [out]
    refine wpAny_bind (seqEpoch_at o2 rfl (wpAny_bind (listUpdate_at o2 rfl ?_ (hsz2 := fits (by simp))))); simp only [bne_self_eq_false,Bool.false_eq_true,if_false]
    unfold outOf at h
    rw [if_pos h2] at h
    exact wpAny_pure h
  · rw [if_neg (by rw [hz]; exact h2),if_neg (by rw [hz]; exact h2)]
    refine wpAny_bind (hk (by omega) _ (wpAny_bind (wpAny_mono (kat_run (ks := vs) (vs := vs) (κ := κ) (Q := λ st' s' => s' = { s with heap := midHeap s.heap a vs } /\ failedOf st' = none /\ (arrOf st').map (·.2) = List.toArray ((outOf lt vs.length).map λ i => vs.getD i Value.none) /\ (outOf lt vs.length).length = vs.length)
      (G := λ p s' => s' = { s with heap := midHeap s.heap a vs } /\ p = go lt (kas_sort vs.length)) rfl (by omega) h64 (λ p st' s' a1 a2 a3 a4 => ⟨a4.1,a3,?_,?_⟩) (go_wp' hc _ (sort_asks (by omega)) ⟨rfl,rfl⟩)) ?_ λ _ _ e => e)))
    · unfold outOf
      rw [if_neg h2,<- a4.2]
      exact kat_snds rfl a2
    · unfold outOf
      rw [if_neg h2,<- a4.2,Array.length_toList,a1]
    · rintro ⟨⟨⟩,st'⟩ s' ⟨rfl,hf,har,hln⟩
      dsimp only
      rw [har]
      refine wpAny_bind (seqEpoch_at o2 rfl (wpAny_bind (listUpdate_at o2 rfl ?_ (hsz2 := by rw [List.size_toArray,List.length_map,hln,sizeLine_eq]; omega)))); rw [hf]; simp only [bne_self_eq_false,Bool.false_eq_true,if_false]
      exact wpAny_pure h
theorem sorted_pure {l : Addr} {vs : List Value} {κ : SortKind} {lt : Nat -> Nat -> Bool} {Q : Value -> Shared -> Prop} (hl : s.heap.IsList l vs.toArray) (h64 : vs.length < 64)
    (hk : ∀ (A' : Around) (h' : Heap),(∀ b o,s.heap.get? b = some o -> h'.get? b = some o) -> 2 <= vs.length -> ∀ (Q' : SortKind -> Shared -> Prop) E',Q' κ { s with heap := h' } -> wpAny (model prog w) A' (keyKind' vs.toArray) Q' E' { s with heap := h' })
    (hc : ∀ (A' : Around) (h' : Heap),(∀ b o,s.heap.get? b = some o -> h'.get? b = some o) -> ∀ i j,i < vs.length -> j < vs.length -> ∀ (C : Bool -> Shared -> Prop),C (lt i j) { s with heap := h' } -> kas_ask prog w A' κ vs i j C { s with heap := h' })
    (h : Q (.ref (s.heap.objs.size + 1)) { s with heap := sortedAll s.heap vs ((outOf lt vs.length).map λ i => vs.getD i Value.none).toArray }) :
    wpAny (model prog w) A (call (.builtin "sorted") [.ref l]) Q E s := by
  refine Calls.call_function_entry kind_sorted plain_sorted entry_sorted (args_sorted1 _) ?_
  unfold Builtin.«sorted»
  refine wpAny_bind (m := checkCount "sorted" 1 1 _) (wpAny_pure (wpAny_bind (collect_list hl (wpAny_bind (wpAny_newList ?_)) (by rw [sizeLine_eq]; omega))))
  have at1 : (inHeap s.heap vs).get? (s.heap.objs.size + 1) = some (seqObj "list" vs.toArray 0) := by
    unfold inHeap
    rw [<- inHeap_size (h := s.heap) (vs := vs)]; exact Heap.get?_push_size _ rfl
  show wpAny _ _ _ _ _ { s with heap := inHeap s.heap vs }
  rw [inHeap_size]
  have old : ∀ b o,s.heap.get? b = some o -> (midHeap (inHeap s.heap vs) (s.heap.objs.size + 1) vs).get? b = some o := λ b o e => midHeap_old (inHeap_old e) (Nat.ne_of_lt (Nat.lt_succ_of_lt (Heap.lt_size e)))
  refine wpAny_bind (wpAny_holding (wpAny_call_entry slot_list_sort ⟨_,at1,rfl⟩ entry_list_sort (sort_pure (κ := κ) (lt := lt) (s := { s with heap := inHeap s.heap vs }) at1 h64 (λ h2 Q' q => hk _ _ old h2 Q' _ q) (λ i j hi hj C q => hc _ _ old i j hi hj C q) ⟨_,rfl,wpAny_pure ⟨_,rfl,h⟩⟩) (args_list_sort _)))
end
end S
set_option Elab.async false
set_option linter.all false
set_option maxRecDepth 100000
set_option maxHeartbeats 4000000
namespace S
open PySem PySem.W PyProof.Rows
def Shape : List Bool -> List PyData -> Prop
  | [],[] => True
  | true :: bs,d :: ds => (∃ x,d = .str x) /\ Shape bs ds
  | false :: bs,d :: ds => (∃ i,d = .int i) /\ Shape bs ds
  | _,_ => False
def sEq : PyData -> PyData -> Bool
  | .int x,.int y => x == y
  | .str x,.str y => x == y
  | _,_ => false
def sLt : PyData -> PyData -> Bool
  | .int x,.int y => decide (x < y)
  | .str x,.str y => decide (x.cps.toList < y.cps.toList)
  | _,_ => false
def lexD : List PyData -> List PyData -> Bool
  | a :: as,b :: bs => if sEq a b = true then lexD as bs else sLt a b
  | [],_ :: _ => true
  | _,_ => false
def rowAt (rows : List (List PyData)) (i : Nat) : List PyData := rows.getD i (rows.headD [])
def RowV : List PyData -> List Value -> Prop := Paired λ d u => (∃ i t,d = .int i /\ u = .int i t) \/ ∃ x t,d = .str x /\ u = .str x t
section
variable {prog : Program} {w : World} {A : Around} {Q : Bool -> Shared -> Prop}
theorem lex_wp : ∀ {sh : List Bool} {xs ys : List PyData} {us vs : List Value} (i : Nat) (s : Shared),Shape sh xs -> Shape sh ys -> RowV xs us -> RowV ys vs -> Q (lexD xs ys) s -> KatLex prog w A true false Q (us.zip vs) i s
  | [],[],[],us,vs,i,s,_,_,h1,h2,q => by
    cases h1
    exact q
  | t :: sh,a :: as,b :: bs,us,vs,i,s,ha,hb,h1,h2,q => by
    cases h1 with
    | cons r1 t1 =>
      cases h2 with
      | cons r2 t2 =>
        cases t with
        | true =>
          obtain ⟨⟨x,rfl⟩,sa⟩ := ha
          obtain ⟨⟨y,rfl⟩,sb⟩ := hb
          rcases r1 with ⟨_,_,e,_⟩ | ⟨x',tx,e,e'⟩
          · cases e
          · cases e
            subst e'
            rcases r2 with ⟨_,_,e,_⟩ | ⟨y',ty,e,e'⟩
            · cases e
            · cases e
              subst e'
              refine kat_cons (eqBool_str ?_)
              by_cases e : x = y
              · subst e
                have : (x == x) = true := by simp
                rw [this]
                refine kat_yes (lex_wp (i + 1) s sa sb t1 t2 ?_)
                simpa [lexD,sEq] using q
              · have e1 : (x == y) = false := by simp [e]
                rw [e1]
                refine kat_no ?_
                have q' : Q (decide (x.cps.toList < y.cps.toList)) s := by simpa [lexD,sEq,e,sLt] using q
                cases hb : (true && i == 0) with
                | true => exact oneLt_str q'
                | false => exact kat_one _ _ (lt_str q')
        | false =>
          obtain ⟨⟨x,rfl⟩,sa⟩ := ha
          obtain ⟨⟨y,rfl⟩,sb⟩ := hb
          rcases r1 with ⟨x',tx,e,e'⟩ | ⟨_,_,e,_⟩
          · cases e
            subst e'
            rcases r2 with ⟨y',ty,e,e'⟩ | ⟨_,_,e,_⟩
            · cases e
              subst e'
              refine kat_cons (wpAny_eqBool_int ?_)
              by_cases e : x = y
              · subst e
                have : (x == x) = true := by simp
                rw [this]
                refine kat_yes (lex_wp (i + 1) s sa sb t1 t2 ?_)
                simpa [lexD,sEq] using q
              · have e1 : (x == y) = false := by simp [e]
                rw [e1]
                refine kat_no ?_
                have q' : Q (decide (x < y)) s := by simpa [lexD,sEq,e,sLt] using q
                cases hb : (true && i == 0) with
                | true => exact oneLt_int q'
                | false => exact kat_one _ _ (lt_int q')
            · cases e
          · cases e
  | [],a :: as,_,_,_,_,_,h,_,_,_,_ => by cases h
  | [],[],b :: bs,_,_,_,_,_,h,_,_,_ => by cases h
  | t :: sh,[],_,_,_,_,_,h,_,_,_,_ => by cases t <;> cases h
  | t :: sh,a :: as,[],_,_,_,_,_,h,_,_,_ => by cases t <;> cases h
end
end S
namespace D
open PySem PySem.Spec PyProof.Rows L2 S
section
variable {K : PySem.W.Frag}
theorem row_vals {H : Hp} : ∀ {sh : List Bool} {ds : List PyData} {vs : List V} {us : List Value},Shape sh ds -> RepA K H ds vs -> Vals vs us -> RowV ds us
  | [],[],vs,us,_,h,r => by
    simp only [RepA] at h
    subst h
    cases r
    exact .nil
  | t :: sh,d :: ds,vs,us,hs,h,r => by
    simp only [RepA] at h
    obtain ⟨v,rs,e,h1,h2⟩ := h
    subst e
    cases r with
    | cons r1 r2 =>
      cases t with
      | true =>
        obtain ⟨⟨x,rfl⟩,hs⟩ := hs
        simp only [RepD] at h1
        subst h1
        obtain ⟨tk,e⟩ := (show ∃ t,_ = Value.str x t from r1)
        exact .cons (.inr ⟨x,tk,rfl,e⟩) (row_vals hs h2 r2)
      | false =>
        obtain ⟨⟨x,rfl⟩,hs⟩ := hs
        simp only [RepD] at h1
        subst h1
        obtain ⟨tk,e⟩ := (show ∃ t,_ = Value.int x t from r1)
        exact .cons (.inl ⟨x,tk,rfl,e⟩) (row_vals hs h2 r2)
  | [],d :: ds,_,_,h,_,_ => by cases h
  | t :: sh,[],_,_,h,_,_ => by cases t <;> cases h
theorem RowV.len : ∀ {ds : List PyData} {us : List Value},RowV ds us -> us.length = ds.length := λ h => (Paired.length h).symm
theorem shape_len : ∀ {sh : List Bool} {ds : List PyData},Shape sh ds -> ds.length = sh.length
  | [],[],_ => rfl
  | true :: sh,d :: ds,h => by simp [shape_len h.2]
  | false :: sh,d :: ds,h => by simp [shape_len h.2]
  | [],_ :: _,h => by cases h
  | t :: sh,[],h => by cases t <;> cases h
def RowsAt (h : Heap) (sh : List Bool) (rows : List (List PyData)) (its : List Value) : Prop := Paired (λ row u => Shape sh row /\ ∃ a o us n,u = Value.ref a /\ h.get? a = some o /\ o.cls = .type "tuple" /\ o.data = .seq us n /\ RowV row us.toList) rows its
theorem RowsAt.keep {h h' : Heap} {sh : List Bool} {rows : List (List PyData)} {its : List Value} (k : ∀ b o,h.get? b = some o -> h'.get? b = some o) (r : RowsAt h sh rows its) : RowsAt h' sh rows its :=
  Paired.mapP r λ row u ⟨s,a,o,us,n,e,g,c,d,q⟩ => ⟨s,a,o,us,n,e,k _ _ g,c,d,q⟩
theorem RowsAt.get {h : Heap} {sh : List Bool} : ∀ {rows : List (List PyData)} {its : List Value} (i : Nat),i < rows.length -> RowsAt h sh rows its -> ∃ a o us n,its.getD i Value.none = .ref a /\ h.get? a = some o /\ o.cls = .type "tuple" /\ o.data = .seq us n /\ Shape sh (rowAt rows i) /\ RowV (rowAt rows i) us.toList := by
  have main : ∀ {rows : List (List PyData)} {its : List Value} (i : Nat) (dflt : List PyData),i < rows.length -> RowsAt h sh rows its -> ∃ a o us n,its.getD i Value.none = .ref a /\ h.get? a = some o /\ o.cls = .type "tuple" /\ o.data = .seq us n /\ Shape sh (rows.getD i dflt) /\ RowV (rows.getD i dflt) us.toList := by
    intro rows
    induction rows with
    | nil => intro its i d hi _; simp at hi
    | cons row rows ih =>
      intro its i d hi r
      cases r with
      | cons r1 r2 =>
        cases i with
        | zero =>
          obtain ⟨s,a,o,us,n,e,g,c,dd,q⟩ := r1
          exact ⟨a,o,us,n,e,g,c,dd,s,q⟩
        | succ i =>
          obtain ⟨a,o,us,n,e,z⟩ := ih i d (by simpa using hi) r2
          exact ⟨a,o,us,n,by simpa using e,by simpa using z⟩
  exact λ {rows its} i hi r => main i _ hi r
theorem RowsAt.tups {h : Heap} {t : Bool} {sh : List Bool} : ∀ {rows : List (List PyData)} {its : List Value},RowsAt h (t :: sh) rows its -> ∃ fs,PySem.W.KatTups h its fs /\ fs.length = its.length /\ ∀ v ∈ fs,(t = true /\ ∃ x k,v = Value.str x k) \/ (t = false /\ ∃ i k,v = Value.int i k)
  | [],its,r => by
    cases r
    exact ⟨[],.nil,rfl,λ v hv => by simp at hv⟩
  | row :: rows,its,r => by
    cases r with
    | cons r1 r2 =>
      obtain ⟨fs,h1,h2,h3⟩ := RowsAt.tups r2
      obtain ⟨s,a,o,us,n,e,g,c,dd,q⟩ := r1
      subst e
      match row,s with
      | d :: ds,s =>
        obtain ⟨f,us2,eu,hf⟩ : ∃ f us2,us.toList = f :: us2 /\ ((t = true /\ ∃ x k,f = Value.str x k) \/ (t = false /\ ∃ i k,f = Value.int i k)) := by
          generalize us.toList = ul at q
          cases q with
          | @cons _ u _ ul2 q1 q2 =>
            refine ⟨u,ul2,rfl,?_⟩
            cases t with
            | true =>
              obtain ⟨⟨x,rfl⟩,_⟩ := s
              rcases q1 with ⟨_,_,e,_⟩ | ⟨_,k,e,e'⟩
              · cases e
              · exact .inl ⟨rfl,_,_,e'⟩
            | false =>
              obtain ⟨⟨x,rfl⟩,_⟩ := s
              rcases q1 with ⟨_,k,e,e'⟩ | ⟨_,_,e,_⟩
              · exact .inr ⟨rfl,_,_,e'⟩
              · cases e
        have e0 : us[0]? = some f := by
          have : us.toList[0]? = some f := by rw [eu]; rfl
          simpa using this
        refine ⟨f :: fs,.cons g c dd e0 h1,by simp [h2],λ v hv => ?_⟩
        rcases List.mem_cons.mp hv with rfl | hv
        · exact hf
        · exact h3 v hv
      | [],s => cases t <;> cases s
end
section
variable {X : Cx} {K : PySem.W.Frag}
theorem rows_at {pins : List (Addr × Obj)} {σ : St} {H : Hp} {s : Shared} {sh : List Bool} (I : Inv X pins σ H s) : ∀ {rows : List (List PyData)} {vs : List V} {its : List Value},(∀ r ∈ rows,Shape sh r) -> RepA X.K H (rows.map PyData.tuple) vs -> Vals vs its -> RowsAt s.heap sh rows its
  | [],vs,its,_,h,r => by
    simp only [List.map_nil,RepA] at h
    subst h
    cases r
    exact .nil
  | row :: rows,vs,its,hs,h,r => by
    simp only [List.map_cons,RepA] at h
    obtain ⟨v,rs,e,h1,h2⟩ := h
    subst e
    cases r with
    | cons r1 r2 =>
      simp only [RepD] at h1
      obtain ⟨a,us,ev,hq,ra⟩ := h1
      subst ev
      cases r1
      obtain ⟨uts,ru,⟨o,ho,hc,n,hd⟩,_⟩ := I.tuple hq
      have s1 := hs row (by simp)
      exact .cons ⟨s1,a,o,uts.toArray,n,rfl,ho,hc,hd,by simpa using row_vals s1 ra ru⟩ (rows_at I (λ r hr => hs r (by simp [hr])) h2 r2)
def tupsW (rows : List (List PyData)) : List W := rows.map λ r => .d (.tuple r)
end
end D
set_option Elab.async false
set_option linter.all false
set_option maxRecDepth 100000
set_option maxHeartbeats 4000000
namespace S
open PySem PySem.W PyProof.Rows
section
variable {N : Nat}
def PR (N : Nat) (p : Array Nat) : Prop := p.Perm (List.toArray (List.range N))
theorem PR.low (hN : 1 <= N) {p : Array Nat} (h : PR N p) : Low N p := .of hN λ x hx => by
  have := (Array.perm_iff_toList_perm.mp h).mem_iff.mp hx
  simpa using this
theorem PR.rev {p : Array Nat} {i j : Nat} (h : PR N p) : PR N (kas_rev p i j) := (mirror_perm _ _ _ _ : (kas_rev p i j).Perm p).trans h
theorem asks_go {α : Type} {R : α -> Prop} (lt : Nat -> Nat -> Bool) : ∀ {t : KasT α},Asks N R t -> R (go lt t)
  | .ret _,h => h
  | .ask i j k,h => asks_go lt (t := k (lt i j)) (h.2.2 (lt i j))
theorem desc_pr (hN : 1 <= N) : ∀ (f : Nat) {p : Array Nat} (n q : Nat),PR N p -> Asks N (λ r => PR N r.1) (kas_desc f p n q)
  | 0,p,n,q,h => h
  | f + 1,p,n,q,h => ⟨h.low hN _,h.low hN _,λ b => by
    cases b with
    | true =>
      simp only [if_true]
      split
      · exact desc_pr hN f (n + 1) 0 h.rev
      · exact desc_pr hN f (n + 1) 0 h
    | false =>
      simp only [Bool.false_eq_true,if_false]
      refine ⟨h.low hN _,h.low hN _,λ b => ?_⟩
      cases b with
      | true => exact h
      | false => exact desc_pr hN f (n + 1) (q + 1) h⟩
theorem tail3_pr (hN : 1 <= N) {p : Array Nat} {n m : Nat} (h : PR N p) : Asks N (λ (r : Nat × Array Nat) => PR N r.2) (kas_tail3 n m p) := by
  unfold kas_tail3
  refine Asks.bind (λ k _ => ?_) (asc_asks (h.rev.low hN) _ _)
  exact (h.rev : PR N (kas_rev p 0 n))
theorem descPart_pr (hN : 1 <= N) {p : Array Nat} {n m : Nat} (h : PR N p) : Asks N (λ r => PR N r.2) (kas_descPart n m p) := (desc_pr hN _ _ _ h).bind λ r hr => by
  split
  · exact tail3_pr hN hr.rev
  · exact tail3_pr hN hr
theorem count_pr (hN : 1 <= N) {p : Array Nat} {m : Nat} (h : PR N p) : Asks N (λ r => PR N r.2) (kas_count m p) := (asc_asks (h.low hN) _ _).bind λ n _ => by
  split
  · exact h
  · split
    · refine ⟨h.low hN _,h.low hN _,λ b => ?_⟩
      cases b with
      | true => exact h
      | false => exact descPart_pr hN h.rev
    · exact descPart_pr hN h
theorem bin_pr (hN : 1 <= N) : ∀ (f : Nat) {p : Array Nat} (k : Nat),PR N p -> Asks N (PR N) (kas_bin f p k)
  | 0,_,_,h => h
  | f + 1,p,k,h => (place_asks (h.low hN) _ _ _).bind λ l _ => bin_pr hN f (k + 1) ((bubble_perm _ _ _ : (bubble p k (k - l)).Perm p).trans h)
theorem sort_pr (hN : 1 <= N) : Asks N (PR N) (kas_sort N) := (count_pr hN (Array.Perm.refl _)).bind λ r hr => by
  split
  · exact bin_pr hN _ _ hr
  · exact hr
theorem out_perm (lt : Nat -> Nat -> Bool) (n : Nat) : (outOf lt n).Perm (List.range n) := by
  unfold outOf
  by_cases z : n < 2
  · rw [if_pos z]
  · rw [if_neg z]
    have := Array.perm_iff_toList_perm.mp (show PR n (go lt (kas_sort n)) from asks_go lt (sort_pr (N := n) (by omega)))
    simpa using this
end
end S
namespace D
open PySem PySem.Spec PyProof.Rows L2 S
section
variable {X : Cx} {K : PySem.W.Frag}
theorem call_sortedP : CallR X (.builtin "sorted") (λ xs H Q => ∃ p vs rows t sh,xs = [.ref p] /\ SqL X.K H p vs /\ RepA X.K H (rows.map PyData.tuple) vs /\ (∀ r ∈ rows,Shape (t :: sh) r) /\ rows.length < 64 /\
    ∀ l,H l = none -> Q (.ref l) (upd H l (.lst ((outOf (λ i j => lexD (rowAt rows i) (rowAt rows j)) rows.length).map λ i => vs.getD i .non)))) := by
  intro pins s σ H xs us Q I r h
  obtain ⟨p,vs,rows,t,sh,rfl,hq,ra,hs,hz,q⟩ := h
  obtain ⟨u,rfl,rx⟩ := vals1 r
  cases rx
  obtain ⟨its,rv,pl,_⟩ := I.list hq
  have hl := rv.length
  have hl2 := ra.length
  rw [List.length_map] at hl2
  have R := rows_at I hs ra rv
  refine sorted_pure (κ := tuples' true) (lt := λ i j => lexD (rowAt rows i) (rowAt rows j)) pl.isList (by omega) (λ A' h' k h2 Q' E' q' => ?_) (λ A' h' k i j hi hj C c => ?_) ?_
  · obtain ⟨fs,t1,t2,t3⟩ := RowsAt.tups (R.keep k)
    cases t with
    | true => exact PySem.W.kat_kind (s := { s with heap := h' }) (T := .type "str") t1 (by omega) (λ v hv => by rcases t3 v hv with ⟨_,x,k,rfl⟩ | ⟨e,_⟩; exact .now; cases e) rfl q'
    | false => exact PySem.W.kat_kind (s := { s with heap := h' }) (T := .type "int") t1 (by omega) (λ v hv => by rcases t3 v hv with ⟨e,_⟩ | ⟨_,x,k,rfl⟩; cases e; exact .now) rfl q'
  · obtain ⟨a,oa,xa,na,e1,g1,c1,d1,s1,w1⟩ := (R.keep k).get i (by omega)
    obtain ⟨b,ob,xb,nb,e2,g2,c2,d2,s2,w2⟩ := (R.keep k).get j (by omega)
    unfold PySem.W.kas_ask
    rw [e1,e2]
    refine PySem.W.kat_lt (s := { s with heap := h' }) g1 d1 g2 d2 ?_
    have hn : decide (xa.size < xb.size) = false := by
      have z1 := RowV.len w1
      have z2 := RowV.len w2
      rw [shape_len s1] at z1
      rw [shape_len s2] at z2
      simp only [Array.length_toList] at z1 z2
      simp; omega
    rw [hn]
    exact lex_wp 0 _ s1 s2 w1 w2 c
  · obtain ⟨n,e⟩ := sortedAll_at s.heap its ((outOf (λ i j => lexD (rowAt rows i) (rowAt rows j)) its.length).map λ i => its.getD i Value.none).toArray
    have hfr : H (s.heap.objs.size + 1) = none := I.hok.fresh (Nat.le_succ _)
    have hlen : its.length = rows.length := by omega
    rw [hlen] at e
    rw [hlen]
    have olen : (outOf (λ i j => lexD (rowAt rows i) (rowAt rows j)) rows.length).length <= 64 := by
      have := (out_perm (λ i j => lexD (rowAt rows i) (rowAt rows j)) rows.length).length_eq
      rw [List.length_range] at this
      omega
    refine ⟨.ref _,_,I.laid (a := s.heap.objs.size + 1) (o := .lst ((outOf (λ i j => lexD (rowAt rows i) (rowAt rows j)) rows.length).map λ i => vs.getD i .non)) (t' := s.toks) (λ b o z => sortedAll_old z) (Nat.le_succ _) ⟨?_,_,n,?_,e⟩,rfl,q _ hfr⟩
    · rw [List.length_map]
      have := s16
      omega
    · have main : ∀ is : List Nat,(∀ i ∈ is,i < rows.length) -> Vals (is.map λ i => vs.getD i .non) (is.map λ i => its.getD i Value.none) := by
        intro is
        induction is with
        | nil => intro _; exact .nil
        | cons i is ih =>
          intro hi
          refine .cons ?_ (ih λ j hj => hi j (by simp [hj]))
          have h1 := hi i (by simp)
          obtain ⟨u,e1,e2⟩ := Vals.get (i := i) (x := vs.getD i .non) rv (by simp [List.getD_eq_getElem?_getD,List.getElem?_eq_getElem (show i < vs.length by omega)])
          have e3 : its.getD i Value.none = u := by rw [List.getD_eq_getElem?_getD,e1]; rfl
          show RelV (vs.getD i .non) (its.getD i Value.none)
          rw [e3]; exact e2
      refine main _ λ i hi => ?_
      simpa using (out_perm _ _).mem_iff.mp hi
def rdSortP (ws : List W) (M : MH) (Q : QD) : Prop := ∃ w rows t sh,ws = [w] /\ LstW M w (rows.map PyData.tuple) /\ (∀ r ∈ rows,Shape (t :: sh) r) /\ rows.length < 64 /\ ∀ rows',rows'.Perm rows -> ∀ p,M p = none -> Q (.m p) (updM M p (.lst (tupsW rows')))
theorem cd_sortP : CallD K (λ xs H Q => ∃ p vs rows t sh,xs = [.ref p] /\ SqL K H p vs /\ RepA K H (rows.map PyData.tuple) vs /\ (∀ r ∈ rows,Shape (t :: sh) r) /\ rows.length < 64 /\
    ∀ l,H l = none -> Q (.ref l) (upd H l (.lst ((outOf (λ i j => lexD (rowAt rows i) (rowAt rows j)) rows.length).map λ i => vs.getD i .non)))) rdSortP := by
  intro vs H ws M Qd Q r m ⟨w,rows,t,sh,e,g,hs,hz,q⟩ k
  subst e
  obtain ⟨v,e1,r1⟩ := repWs1 r
  obtain ⟨p,ys,ev,hq,ra⟩ := g.sound r1 m
  subst ev
  refine ⟨p,ys,rows,t,sh,e1,hq,ra,hs,hz,λ l hl => ?_⟩
  have hl2 := ra.length
  rw [List.length_map] at hl2
  have pp : ((outOf (λ i j => lexD (rowAt rows i) (rowAt rows j)) rows.length).map (rowAt rows)).Perm rows := by
    have h := (out_perm (λ i j => lexD (rowAt rows i) (rowAt rows j)) rows.length).map (rowAt rows)
    have e : (List.range rows.length).map (rowAt rows) = rows := by
      refine List.ext_getElem (by simp) λ i h1 h2 => ?_
      simp [rowAt,List.getD_eq_getElem?_getD,List.getElem?_eq_getElem h2]
    rw [e] at h
    exact h
  have mem : ∀ i ∈ outOf (λ i j => lexD (rowAt rows i) (rowAt rows j)) rows.length,i < rows.length := λ i hi => by
    simpa using (out_perm _ _).mem_iff.mp hi
  generalize outOf (λ i j => lexD (rowAt rows i) (rowAt rows j)) rows.length = is at pp mem
  have kp : Kp H (upd H l (.lst (is.map λ i => ys.getD i .non))) := Kp.new hl
  refine k _ _ (.m l) _ kp rfl (m.put (mo := .lst (tupsW (is.map (rowAt rows)))) kp ⟨_,upd_same,?_⟩) (q _ pp l (m.free hl))
  clear pp
  induction is with
  | nil => exact .nil
  | cons i is ih =>
    have hi := mem i (by simp)
    obtain ⟨v,e1,e2⟩ := ra.get (i := i) (d := .tuple (rowAt rows i)) (by
      rw [List.getElem?_map,List.getElem?_eq_getElem hi]
      simp [rowAt,List.getD_eq_getElem?_getD,List.getElem?_eq_getElem hi])
    have e3 : ys.getD i .non = v := by rw [List.getD_eq_getElem?_getD,e1]; rfl
    refine .cons ?_ ?_
    · show RepW K _ (.d (.tuple (rowAt rows i))) (ys.getD i .non)
      rw [e3]
      exact RepD.keep kp e2
    · have := ih (λ j hj => mem j (by simp [hj])) (Kp.new hl)
      exact Paired.mapP this λ a b z => RepW.keep ⟨λ b' xs' e' => by
        by_cases y : b' = l
        · subst y; rw [upd_same] at e'; cases e'
        · rw [upd_ne y] at e' ⊢; exact e',λ b' o' u' e' => by
        by_cases y : b' = l
        · subst y; rw [upd_same] at e'; cases e'
        · rw [upd_ne y] at e' ⊢; exact e'⟩ z
end
end D
set_option Elab.async false
set_option linter.all false
set_option maxRecDepth 100000
set_option maxHeartbeats 4000000
namespace D
open PySem PySem.Spec PyProof.Rows L2 S
section
variable {P : Program} {w : World} {H : Hp} {h h' : Heap} {a : Addr} {o : HO}
end
section
variable {X : Cx} {pins : List (Addr × Obj)} {σ : St} {H : Hp} {s : Shared} {h' : Heap}
end
section
variable {X : Cx} {K : PySem.W.Frag}
def rdCatT (w : W) (w' : W) (M : MH) (Q : QD) : Prop := ∃ xs ys,w = .d (.tuple xs) /\ w' = .d (.tuple ys) /\ xs ≠ [] /\ xs.length + ys.length <= sizeLine /\ Q (.d (.tuple (xs ++ ys))) M
theorem opd_catT : OpD K (rCatT K) rdCatT := by
  intro x y H w w' M Qd Q r1 r2 m ⟨xs,ys,e1,e2,hne,hz,q⟩ k
  subst e1 e2
  simp only [RepW,RepD] at r1 r2
  obtain ⟨a,vs,ea,ha,ra⟩ := r1
  obtain ⟨b,us,eb,hb,rb⟩ := r2
  have l1 := ra.length
  have l2 := rb.length
  refine ⟨a,b,vs,us,ea,eb,ha,hb,λ z => hne (by rw [z] at l1; simpa using l1.symm),by omega,λ z => ?_,λ z p hp => ?_⟩
  · have e : ys = [] := by rw [z] at l2; simpa using l2.symm
    subst e
    rw [List.append_nil] at q
    refine k _ _ (.d (.tuple xs)) M (Kp.refl _) ?_ m q
    simp only [RepW,RepD]
    exact ⟨a,vs,rfl,ha,ra⟩
  · refine k _ _ (.d (.tuple (xs ++ ys))) M (Kp.new hp) ?_ (m.new hp) q
    simp only [RepW,RepD]
    exact ⟨p,_,rfl,.inl (.inl upd_same),(ra.append rb).keep (Kp.new hp)⟩
def isNone : W -> Bool
  | .d .none => true
  | _ => false
theorem isNone_rep {H : Hp} {w : W} {v : V} (r : RepW K H w v) : decide (v = .non) = isNone w := by
  cases w with
  | m a => cases (show v = .ref a from r); rfl
  | t n => cases (show v = .ty n from r); rfl
  | d x =>
    cases x <;> simp only [RepW,RepD] at r
    · subst r; rfl
    · subst r; rfl
    · subst r; rfl
    · subst r; rfl
    all_goals first
      | (obtain ⟨a,vs,e,_⟩ := r; subst e; rfl)
      | (obtain ⟨a,o,l,e,_⟩ := r; subst e; rfl)
def rdIsN (neg : Bool) (w : W) (w' : W) (M : MH) (Q : QD) : Prop := w' = .d .none /\ Q (.d (.bool (xor neg (isNone w)))) M
theorem opd_isN : OpD K (λ x y H Q => y = .non /\ Q (.bl (decide (x = .non))) H) (rdIsN false) := by
  intro x y H w w' M Qd Q r1 r2 m ⟨e,q⟩ k
  subst e
  simp only [RepW,RepD] at r2
  refine ⟨r2,k _ _ (.d (.bool (isNone w))) M (Kp.refl _) ?_ m (by simpa using q)⟩
  rw [isNone_rep r1]
  simp [RepW,RepD]
end
end D
set_option Elab.async false
set_option linter.all false
set_option maxRecDepth 100000
set_option maxHeartbeats 4000000
namespace Rc
open PySem PySem.Spec PyProof.Rows L2 D
section
variable {α : Type} (nm : α -> Str)
def rk (g : α -> PyData) (L : List α) : List (Key × PyData) := L.map λ a => (.inr (nm a),g a)
def fd (L : List α) (n : Str) : Option α := L.find? λ a => decide (nm a = n)
def pt (L : List α) (z : α) : List α := match fd nm L (nm z) with
  | none => L ++ [z]
  | some _ => L.map λ y => if nm y = nm z then z else y
variable {nm}
end
end Rc
set_option Elab.async false
set_option linter.all false
set_option maxRecDepth 100000
set_option maxHeartbeats 4000000
namespace Rc
open PySem PySem.Spec PyProof.Rows L2 D
mutual
def okD : Nat -> PyData -> Bool
  | _,.none => true
  | _,.bool _ => true
  | _,.int i => decide (i.natAbs < 2 ^ 100)
  | _,.str z => ascB z
  | k + 1,.list ds => okA k ds
  | k + 1,.tuple ds => okA k ds
  | _,_ => false
def okA : Nat -> List PyData -> Bool
  | _,[] => true
  | k,d :: ds => okD k d && okA k ds
end
theorem okA_of {k : Nat} : ∀ {ds : List PyData},(∀ d ∈ ds,okD k d = true) -> okA k ds = true
  | [],_ => by simp [okA]
  | d :: ds,h => by
    simp only [okA,Bool.and_eq_true]
    exact ⟨h d (by simp),okA_of λ x hx => h x (by simp [hx])⟩
theorem asc_of_b {z : Str} (h : ascB z = true) : Asc z := asc_dec h
theorem strOk_asc {z : Str} (h : Asc z) : PyData.strOk z = true := by
  unfold PyData.strOk
  rw [Array.all_eq_true_iff_forall_mem]
  intro c hc
  exact decide_eq_true (by have := h c (by simpa using hc); omega)
theorem strOk_b {z : Str} (h : ascB z = true) : PyData.strOk z = true := strOk_asc (asc_of_b h)
mutual
theorem ok_fine : ∀ (k : Nat) (d : PyData),okD k d = true -> fineD d = true
  | _,.none,_ => rfl
  | _,.bool _,_ => rfl
  | _,.int i,h => by
    cases ‹Nat› <;> simp only [okD,decide_eq_true_eq] at h <;> exact decide_eq_true (log2_small h)
  | _,.str z,h => by
    cases ‹Nat› <;> simp only [okD] at h <;> exact h
  | k + 1,.list ds,h => by simp only [okD] at h; simp only [fineD]; exact okA_fine k ds h
  | k + 1,.tuple ds,h => by simp only [okD] at h; simp only [fineD]; exact okA_fine k ds h
  | 0,.list ds,h => by simp [okD] at h
  | 0,.tuple ds,h => by simp [okD] at h
  | k,.dict kvs,h => by cases k <;> simp [okD] at h
theorem okA_fine : ∀ (k : Nat) (ds : List PyData),okA k ds = true -> fineA ds = true
  | _,[],_ => by simp [fineA]
  | k,d :: ds,h => by
    simp only [okA,Bool.and_eq_true] at h
    simp only [fineA,ok_fine k d h.1,okA_fine k ds h.2,Bool.and_self]
end
mutual
theorem ok_lay : ∀ (k : Nat) (d : PyData),okD k d = true -> PyData.canLay0 d = true
  | _,.none,_ => by simp [PyData.canLay0]
  | _,.bool _,_ => by simp [PyData.canLay0]
  | _,.int i,h => by simp [PyData.canLay0]
  | _,.str z,h => by
    cases ‹Nat› <;> simp only [okD] at h <;> simp [PyData.canLay0,strOk_b h]
  | k + 1,.list ds,h => by simp only [okD] at h; simp only [PyData.canLay0]; exact okA_lay k ds h
  | k + 1,.tuple ds,h => by simp only [okD] at h; simp only [PyData.canLay0]; exact okA_lay k ds h
  | 0,.list ds,h => by simp [okD] at h
  | 0,.tuple ds,h => by simp [okD] at h
  | k,.dict kvs,h => by cases k <;> simp [okD] at h
theorem okA_lay : ∀ (k : Nat) (ds : List PyData),okA k ds = true -> PyData.canLayAll0 ds = true
  | _,[],_ => by simp [PyData.canLayAll0]
  | k,d :: ds,h => by
    simp only [okA,Bool.and_eq_true] at h
    simp only [PyData.canLayAll0,ok_lay k d h.1,okA_lay k ds h.2,Bool.and_self]
end
mutual
theorem ok_depth : ∀ (k : Nat) (d : PyData),okD k d = true -> PyData.depth d <= k + 1
  | _,.none,_ => by simp [PyData.depth]
  | _,.bool _,_ => by simp [PyData.depth]
  | _,.int i,h => by simp [PyData.depth]
  | _,.str z,h => by simp [PyData.depth]
  | k + 1,.list ds,h => by simp only [okD] at h; have := okA_depth k ds h; simp only [PyData.depth]; omega
  | k + 1,.tuple ds,h => by simp only [okD] at h; have := okA_depth k ds h; simp only [PyData.depth]; omega
  | 0,.list ds,h => by simp [okD] at h
  | 0,.tuple ds,h => by simp [okD] at h
  | k,.dict kvs,h => by cases k <;> simp [okD] at h
theorem okA_depth : ∀ (k : Nat) (ds : List PyData),okA k ds = true -> PyData.depthAll ds <= k + 1
  | _,[],_ => by simp [PyData.depthAll]
  | k,d :: ds,h => by
    simp only [okA,Bool.and_eq_true] at h
    have h1 := ok_depth k d h.1
    have h2 := okA_depth k ds h.2
    simp only [PyData.depthAll]
    omega
end
mutual
theorem ok_nod : ∀ (k : Nat) (d : PyData),okD k d = true -> PyData.hasDict d = false
  | _,.none,_ => by simp [PyData.hasDict]
  | _,.bool _,_ => by simp [PyData.hasDict]
  | _,.int i,h => by simp [PyData.hasDict]
  | _,.str z,h => by simp [PyData.hasDict]
  | k + 1,.list ds,h => by simp only [okD] at h; simp only [PyData.hasDict]; exact okA_nod k ds h
  | k + 1,.tuple ds,h => by simp only [okD] at h; simp only [PyData.hasDict]; exact okA_nod k ds h
  | 0,.list ds,h => by simp [okD] at h
  | 0,.tuple ds,h => by simp [okD] at h
  | k,.dict kvs,h => by cases k <;> simp [okD] at h
theorem okA_nod : ∀ (k : Nat) (ds : List PyData),okA k ds = true -> PyData.hasDictAll ds = false
  | _,[],_ => by simp [PyData.hasDictAll]
  | k,d :: ds,h => by
    simp only [okA,Bool.and_eq_true] at h
    simp only [PyData.hasDictAll,ok_nod k d h.1,okA_nod k ds h.2,Bool.or_self]
end
theorem eqOk_of {k : Nat} {d : PyData} (hk : k <= 50) (h : okD k d = true) : eqOk d = true := by
  have h1 := ok_lay k d h
  have h2 := ok_depth k d h
  have h3 := ok_nod k d h
  simp only [eqOk,SeqAt.shaped,h1,h3,Bool.true_and,Bool.not_false,Bool.and_true]
  exact decide_eq_true (by omega)
theorem eqOk2_of {k : Nat} {d d' : PyData} (hk : k <= 50) (h : okD k d = true) (h' : okD k d' = true) : eqOk2 d d' = true := by
  have h1 := eqOk_of hk h
  have h2 := eqOk_of hk h'
  cases d <;> cases d' <;> simp [eqOk2,h1,h2]
theorem refl_of {k : Nat} {d : PyData} (h : okD k d = true) : PyData.eqv d d = true := SeqAt.eqv_refl _ (ok_lay k d h)
theorem reprOk_of {k : Nat} {d : PyData} (hk : k <= 50) (h : okD k d = true) (hb : big d <= 1000000) : reprOk d = true :=
  repr_ok (ok_fine k d h) hb (by have := ok_depth k d h; omega) (ok_nod k d h)
theorem bigA_le {c : Nat} : ∀ {ds : List PyData},(∀ d ∈ ds,big d <= c) -> bigA ds <= ds.length * (c + 2)
  | [],_ => by simp [bigA]
  | d :: ds,h => by
    have h1 := h d (by simp)
    have h2 := bigA_le (ds := ds) λ x hx => h x (by simp [hx])
    simp only [bigA,List.length_cons]
    rw [Nat.add_mul]
    omega
theorem eqv_str' (x y : Str) : PyData.eqv (.str x) (.str y) = decide (x = y) := by
  rw [<- str_dec]
  by_cases e : x = y
  · subst e; simp
  · simp [e]
theorem eqv_int' (x y : Int) : PyData.eqv (.int x) (.int y) = decide (x = y) := by
  rw [PyData.eqv]
  by_cases e : x = y
  · subst e; simp
  · simp [e]
theorem ne_M {M : MH} {a b : Addr} {o u : MO} (ha : M a = some o) (hb : M b = some u) (h : o ≠ u) : a ≠ b := λ e => h (by rw [e,hb] at ha; exact (Option.some.inj ha).symm)
theorem ne_new {M : MH} {a b : Addr} {o : MO} (ha : M a = some o) (hb : M b = none) : a ≠ b := λ e => by rw [e,hb] at ha; cases ha
theorem upd_get {M : MH} {a b : Addr} {o u : MO} (h : M a = some o) (hb : M b = none) : updM M b u a = some o := by rw [updM_ne (ne_new h hb)]; exact h
theorem upd_back {M : MH} {d : Addr} {x y : MO} (h : M d = some y) : updM (updM M d x) d y = M := by
  rw [updM_updM]
  funext q
  by_cases e : q = d
  · rw [e,updM_same,h]
  · rw [updM_ne e]
end Rc
set_option Elab.async false
set_option linter.all false
set_option maxRecDepth 100000
set_option maxHeartbeats 4000000
namespace Stc
open PySem PySem.Spec PyProof.Rows L2 D Rc
theorem ix_at {M : MH} {ds : List PyData} {r : Int} (h0 : 0 <= r) (h1 : r < ds.length) : ∃ d,ixW M (.d (.list ds)) r = some (.d d) /\ d ∈ ds := by
  have hn : r.toNat < ds.length := by omega
  refine ⟨ds[r.toNat],?_,List.getElem_mem hn⟩
  simp only [ixW,atI,ixN_nat h0 h1,Option.bind_some,List.getElem?_eq_getElem hn,Option.map_some]
theorem ix_int_at {M : MH} {ns : List Int} {r : Int} (h0 : 0 <= r) (h1 : r < ns.length) : ∃ i,ixW M (.d (.list (ns.map PyData.int))) r = some (.d (.int i)) /\ i ∈ ns := by
  obtain ⟨d,e,hd⟩ := ix_at (M := M) (ds := ns.map PyData.int) h0 (by simpa using h1)
  obtain ⟨i,hi,rfl⟩ := List.mem_map.mp hd
  exact ⟨i,e,hi⟩
theorem ix_str_in {M : MH} {zs : List Str} {r : Int} (h0 : 0 <= r) (h1 : r < zs.length) : ∃ z,ixW M (.d (.list (zs.map PyData.str))) r = some (.d (.str z)) /\ z ∈ zs := by
  obtain ⟨d,e,hd⟩ := ix_at (M := M) (ds := zs.map PyData.str) h0 (by simpa using h1)
  obtain ⟨i,hi,rfl⟩ := List.mem_map.mp hd
  exact ⟨i,e,hi⟩
theorem len_m {M : MH} {a : Addr} {ws : List W} (h : M a = some (.lst ws)) : lenW M (.m a) = some ws.length := by simp only [lenW,h]
theorem bag_at {M : MH} {p : Addr} (h : Bag M p) : ∃ o,M p = some o := by obtain ⟨a,b,c,ns,e,_⟩ := h; exact ⟨_,e⟩
theorem bag_keep {M M' : MH} {p : Addr} (h : Bag M p) (e : M' p = M p) : Bag M' p := by
  obtain ⟨a,b,c,ns,h1,h2⟩ := h
  exact ⟨a,b,c,ns,e.trans h1,h2⟩
end Stc
set_option Elab.async false
set_option linter.all false
set_option maxRecDepth 100000
set_option maxHeartbeats 4000000
namespace D
open PySem PySem.Spec PyProof.Rows L2
section
variable {X : Cx} {pos : Pos} {e : Expr} {te : TD}
end
section
variable {X : Cx} {tg a b c : Expr} {p pos : Pos}
end
section
variable {K : PySem.W.Frag}
variable {X : Cx} {sc : Scope} {own : List Str} {fr : List Nat} {di : TId} {g : TGd} {tt : TTd} {te : TD} {tg iter elt : Expr} {ifs : List Expr} {pos : Pos}
end
section
variable {X : Cx} {K : PySem.W.Frag}
end
end D
set_option Elab.async false
set_option linter.all false
set_option maxRecDepth 100000
set_option maxHeartbeats 4000000
namespace D
open PySem PySem.Spec PyProof.Rows L2
section
variable {X : Cx} {o : Expr} {to : TE} {apos cpos p pos kpos kp : Pos} {j : Nat}
theorem vals_intsV : ∀ {ns : List Int} {us : List Value},IntsAre us ns -> Vals (ns.map V.int) us
  | _,_,.nil => .nil
  | _,_,.cons n t h => .cons ⟨t,rfl⟩ (vals_intsV h)
end
section
variable {X : Cx} {o : Expr} {td : TD} {apos cpos p pos kpos kp : Pos} {j : Nat}
def intsW (ns : List Int) : List W := ns.map λ n => .d (.int n)
theorem reps_ints {K : PySem.W.Frag} {H : Hp} : ∀ (ns : List Int),RepWs K H (intsW ns) (ns.map V.int)
  | [] => .nil
  | n :: ns => .cons (by simp [RepW,RepD]) (reps_ints ns)
end
namespace Q
section
variable {X : Cx} {pos : Pos} {e : Expr} {te : TD}
variable {tg a b c iter elt : Expr} {p : Pos} {sc : Scope} {own : List Str} {fr : List Nat} {di : TId} {g : TGd} {tt : TTd} {ifs : List Expr}
variable {o : Expr} {td : TD} {apos cpos kpos kp : Pos} {j : Nat}
end
end Q
end D
set_option Elab.async false
set_option linter.all false
set_option maxRecDepth 100000
set_option maxHeartbeats 4000000
namespace D
open PySem PySem.Spec PyProof.Rows L2
section
variable {P : Program} {w : World} {K : PySem.W.Frag} {mg : Str -> Option Value} {base h : Heap}
end
section
variable {X : Cx} {pos p : Pos} {k : Nat} {f : Addr} {fd : FuncData} {ps : List Str} {sp : SpD} {x : Str} {e : Expr} {es : List Expr} {t : TAd} {d : Int}
end
end D
set_option Elab.async false
set_option linter.all false
set_option maxRecDepth 100000
set_option maxHeartbeats 4000000
namespace D
open PySem PySem.Spec PyProof.Rows L2
section
variable {X : Cx} {pins : List (Addr × Obj)} {σ : St} {H : Hp} {s : Shared} {h' : Heap}
end
section
variable {X : Cx} {a b : Expr} {p pos : Pos} {ta : TA}
end
section
variable {X : Cx} {K : PySem.W.Frag} {a b : Expr} {p pos : Pos} {t : TAd}
end
section
variable {X : Cx} {pos : Pos}
end
end D
namespace Q
open PySem PySem.Spec PyProof.Rows L2 D
section
variable {X : Cx} {a b : Expr} {p pos : Pos}
end
end Q
set_option Elab.async false
set_option linter.all false
set_option maxRecDepth 100000
set_option maxHeartbeats 4000000
namespace Stc
open PySem PySem.Spec PyProof.Rows L2 D Rc
def Ext (M M' : MH) : Prop := ∀ q o,M q = some o -> M' q = some o
theorem Ext.new {M : MH} {p : Addr} {o : MO} (h : M p = none) : Ext M (updM M p o) := λ q u e => upd_get e h
theorem Ext.del {M M' : MH} {p : Addr} (h : Ext M M') (hp : M p = none) : Ext M (delM M' p) := λ q u e => by
  have hq : q ≠ p := ne_new e hp
  simp only [delM,if_neg hq]
  exact h q u e
theorem Ext.bag {M M' : MH} {p : Addr} (h : Ext M M') (hb : Bag M p) : Bag M' p := by
  obtain ⟨a,b,c,ns,e,z⟩ := hb
  exact ⟨a,b,c,ns,h _ _ e,z⟩
theorem lc_rows {α : Type} {gt : TGd} {te : TD} {Q : List PyData -> DS -> MH -> Prop} {τ0 : DS} {M : MH} (L : List α) (g : α -> W) (f : α -> PyData) (S : DS -> Prop) (hL : L.length <= 1000) (h0 : S τ0)
    (step : ∀ a ∈ L,∀ τ,S τ -> ∀ R : PyData -> DS -> MH -> Prop,(∀ τ2,S τ2 -> R (f a) τ2 M) -> gt (g a) τ M λ τ2 M2 => te τ2 M2 λ y M4 => ∃ d,y = .d d /\ R d τ2 M4)
    (q : ∀ τ,Q (L.map f) τ M) :
    ∃ P : Nat -> List PyData -> DS -> MH -> Prop,P 0 [] τ0 M /\
      (∀ i w acc τ M,(L.map g)[i]? = some w -> P i acc τ M -> acc.length < sizeLine /\ gt w τ M λ τ2 M2 => dYes τ2 M2 λ b M3 => if b = true then te τ2 M3 λ y M4 => ∃ d,y = .d d /\ P (i + 1) (acc ++ [d]) τ2 M4 else P (i + 1) acc τ2 M3) /\
      ∀ acc τ M,P (L.map g).length acc τ M -> Q acc τ M := by
  refine ⟨λ i acc τ M' => M' = M /\ acc = (L.take i).map f /\ S τ,⟨rfl,rfl,h0⟩,?_,?_⟩
  · rintro i w acc τ M' hw ⟨rfl,rfl,hs⟩
    rw [List.getElem?_map] at hw
    cases e : L[i]? with
    | none => rw [e] at hw; cases hw
    | some a =>
      rw [e] at hw
      cases hw
      have hi := (List.getElem?_eq_some_iff.mp e).1
      refine ⟨by rw [List.length_map,List.length_take]; have := s16; omega,?_⟩
      refine step a (List.mem_of_getElem? e) τ hs (λ d τ2 M4 => M4 = M' /\ (L.take i).map f ++ [d] = (L.take (i + 1)).map f /\ S τ2) λ τ2 h2 => ⟨rfl,?_,h2⟩
      rw [List.take_succ,e]
      simp
  · rintro acc τ M' ⟨rfl,rfl,hs⟩
    rw [List.length_map,List.take_length]
    exact q τ
abbrev Dm := List (Str × Int)
def val (D : Dm) (k : Str) : Int := ((fd Prod.fst D k).map (·.2)).getD 0
def more (D : Dm) (k : Str) (n : Int) : Dm := pt Prod.fst D (k,val D k + n)
def vals (D : Dm) : List Int := D.map λ r => r.2
def dsc (ns : List Int) : List Int := ns.mergeSort λ a b => decide (a >= b)
def room (rs : List Int) (i : Int) : Int := (rs.map λ m => if i < m then i else m).sum
def fitL (rs : List Int) (ns : List Int) : Bool := (List.range ns.length).all λ i => decide ((ns.take (i + 1)).sum <= room rs ((i : Int) + 1))
def fitD (rs : List Int) (D : Dm) : Bool := fitL rs (dsc (vals D))
def OkR (rs : List Int) : Prop := rs.length <= 8 /\ ∀ m ∈ rs,0 <= m /\ m <= 6
def gr (rs : List Int) (D : Dm) (k : Str) : Nat -> Int
  | 0 => 0
  | n + 1 => if fitD rs (more D k ((n : Int) + 1)) = true then (n : Int) + 1 else gr rs D k n
theorem ints_map (ns : List Int) : (ns.map PyData.int).map W.d = intsW ns := by rw [List.map_map]; rfl
theorem sealed {M : MH} {l : Addr} {o : MO} (hl : M l = none) : Ext M (delM (updM M l o) l) := (Ext.new hl).del hl
abbrev Bs := List (Str × Int)
abbrev As := List (Str × Str × Int)
def rooms (B : Bs) : List Int := B.map (·.2)
theorem map_at {α β : Type} {L : List α} {f : α -> β} {i : Nat} {w : β} (h : (L.map f)[i]? = some w) : ∃ a,L[i]? = some a /\ w = f a := by
  rw [List.getElem?_map] at h
  cases e : L[i]? with
  | none => rw [e] at h; cases h
  | some a => rw [e] at h; cases h; exact ⟨a,rfl,rfl⟩
theorem rng_at {lo : Int} {n i : Nat} {w : W} (h : (rangeW lo n)[i]? = some w) : i < n /\ w = .d (.int (lo + (i : Int))) := by
  unfold rangeW at h
  obtain ⟨j,hj,rfl⟩ := map_at h
  obtain ⟨h1,h2⟩ := List.getElem?_eq_some_iff.mp hj
  simp at h1 h2
  subst h2
  exact ⟨h1,rfl⟩
def stp (rs : List Int) (s : Dm × As) (r : Str × Str × Int) : Dm × As :=
  (more s.1 r.2.1 (gr rs s.1 r.2.1 r.2.2.toNat),s.2 ++ [(r.1,r.2.1,gr rs s.1 r.2.1 r.2.2.toNat)])
def run (rs : List Int) (A : As) : Dm × As := A.foldl (stp rs) ([],[])
def OkC (A : As) : Prop := A.length <= 8 /\ ∀ r ∈ A,0 <= r.2.2 /\ r.2.2 <= 6
def smallB (c : Nat) : Bool := decide (97 <= c) && decide (c <= 122)
def wd (z : Str) : Bool := decide (1 <= z.length) && decide (z.length <= 8) && z.cps.toList.all smallB
theorem ite_y {c : Bool} {A B : Prop} (e : c = true) (h : A) : if c = true then A else B := by rw [e]; exact iteT h
theorem ite_n {c : Bool} {A B : Prop} (e : c = false) (h : B) : if c = true then A else B := by rw [e]; exact iteF h
def OkRow (r : Str × Int) : Prop := wd r.1 = true /\ 0 <= r.2 /\ r.2 <= 6
def lsS (a b : Str) : Bool := decide (a.cps.toList < b.cps.toList)
structure OkB (B : Bs) : Prop where
  len : B.length <= 8
  row : ∀ r ∈ B,OkRow r
  up : ∀ i r s,B[i]? = some r -> B[i + 1]? = some s -> lsS r.1 s.1 = true
structure OkAr (r : Str × Str × Int) : Prop where
  w : wd r.1 = true
  k : wd r.2.1 = true
  c0 : 0 <= r.2.2
  c6 : r.2.2 <= 6
structure OkA (A : As) : Prop where
  len : A.length <= 8
  row : ∀ r ∈ A,OkAr r
  nd : (A.map λ r => r.1).Nodup
end Stc
set_option Elab.async false
set_option linter.all false
set_option maxRecDepth 100000
set_option maxHeartbeats 4000000
namespace HT
open PySem PyProof.Rows
section
open PySem.SeqAt
open PySem.AutoSeq1 (wpAny_loadPart')
open PySem.MeetsSeq PySem.MeetsSeq2 PySem.MeetsSeq3
end
section
variable {prog : Program} {w : World} {A : Around} {E : Value -> Shared -> Prop} {s : Shared}
end
end HT
namespace D
open PySem PySem.Spec PyProof.Rows L2
section
variable {X : Cx} {K : PySem.W.Frag}
end
end D
set_option Elab.async false
set_option linter.all false
set_option maxRecDepth 100000
set_option maxHeartbeats 4000000
namespace Stc
open PySem PySem.Spec PyProof.Rows L2 D Rc
def exc (t : Int) (xs : List Int) : Int := (xs.map λ x => if t < x then x - t else 0).sum
theorem rng0_at {n i : Nat} {w : W} (h : (rangeW 0 n)[i]? = some w) : i < n /\ w = .d (.int (i : Int)) := by
  obtain ⟨h1,h2⟩ := rng_at h
  rw [Int.zero_add] at h2
  exact ⟨h1,h2⟩
def Dom (xs ys : List Int) : Prop := ∀ t,0 <= t -> exc t xs <= exc t ys
end Stc
set_option Elab.async false
set_option linter.all false
set_option maxRecDepth 100000
set_option maxHeartbeats 4000000
namespace D
open PySem PySem.Spec PyProof.Rows L2
section
variable {X : Cx} {o : Expr} {to : TE} {p pos kpos kp : Pos} {j : Nat}
end
section
variable {X : Cx} {o : Expr} {td : TD} {p pos kpos kp : Pos} {j : Nat}
end
end D
namespace Q
open PySem PySem.Spec PyProof.Rows L2 D
section
variable {X : Cx} {o : Expr} {td : TD} {p pos kpos kp : Pos} {j : Nat}
end
end Q
set_option Elab.async false
set_option linter.all false
set_option maxRecDepth 100000
set_option maxHeartbeats 4000000
namespace L2
open PySem PySem.Spec PyProof.Rows
section
variable {prog : Program} {w : World} {A : Around} {E : Value -> Shared -> Prop} {R : Result -> Shared -> Prop} {s : Shared}
theorem compLoop_ownD {kx vx target iter : Expr} {ifs : List Expr} {scope : Scope} {pos : Pos} {it : Value} {D : Addr} {env : Env} (I : Nat -> Shared -> Prop)
    (turn : ∀ n s,I n s -> wpAny (model prog w) A (pyNext it) (λ r s₁ => match r with
      | none => R (.ok .next) s₁
      | some v => wpAny (model prog w) A (letOwnedTupleGo target it v) (λ _ s₁' => wpAny (model prog w) A (assign target env v) (λ _ s₂ =>
          wpAny (model prog w) A (testsOf ifs env) (λ ok s₃ =>
            if ok = true then wpAny (model prog w) A (eval kx env) (λ kv s₄ => wpAny (model prog w) A (eval vx env) (λ vv s₅ =>
              wpAny (model prog w) A (dictSet D kv vv) (λ _ s₆ => ∃ m,m < n /\ I m s₆) (λ _ _ => False) s₅) (λ _ _ => False) s₄) (λ _ _ => False) s₃
            else ∃ m,m < n /\ I m s₃) (λ _ _ => False) s₂) (λ _ _ => False) s₁') (λ _ _ => False) s₁) (λ _ _ => False) s)
    (n : Nat) (h : I n s) :
    codeAny (model prog w) A (.compLoop (.DictComp kx vx [⟨target,iter,ifs,0⟩] scope pos) 0 it (.ref D) env) R s := by
  refine codeAny_loop rfl I (λ n s hI => ?_) n h
  show wpAny _ A ((compTurn (.DictComp kx vx [⟨target,iter,ifs,0⟩] scope pos) 0 it (.ref D) env).onRaise (λ x => do noteFrame x env; theTreesLotGoes x)) _ _ s
  refine wpAny_noted ?_
  rw [compTurn_dict]
  refine wpAny_bind (wpAny_standAt (wpAny_bind (wpAny_mono (turn n s hI) (λ r s₁ h₁ => ?_) λ _ _ h' => h'.elim)))
  cases r with
  | none => exact wpAny_pure h₁
  | some v =>
    refine wpAny_bind (wpAny_mono h₁ (λ _ s₁' h₁' => ?_) λ _ _ h' => h'.elim)
    refine wpAny_bind (wpAny_mono h₁' (λ _ s₂ h₂ => wpAny_bind (wpAny_mono h₂ (λ ok s₃ h₃ => ?_) λ _ _ h' => h'.elim)) λ _ _ h' => h'.elim)
    cases ok with
    | false => exact wpAny_pure ⟨rfl,h₃⟩
    | true =>
      refine wpAny_bind ?_
      refine wpAny_bind (wpAny_mono h₃ (λ kv s₄ h₄ => wpAny_bind (wpAny_holding (wpAny_mono h₄ (λ vv s₅ h₅ => wpAny_bind (wpAny_standAt (wpAny_holding (wpAny_mono h₅ (λ _ s₆ h₆ => wpAny_pure ⟨rfl,h₆⟩) λ _ _ h' => h'.elim)))) λ _ _ h' => h'.elim))) λ _ _ h' => h'.elim)
end
section
variable {X : Cx} {pins : List (Addr × Obj)} {σ : St} {H : Hp} {s : Shared} {a : Addr} {u r : Value} {v : V} {A : Around} {E : Value -> Shared -> Prop}
theorem d_dictSet {kvs : List (Key × V)} {k : Key} {Q : Unit -> Shared -> Prop} (I : Inv X pins σ H s) (e : H a = some (.dK kvs)) (l : kvs.length < sizeLine) (ry : RelV (kV k) u) (rv : RelV v r) (h : ∀ s',Inv X pins σ (upd H a (.dK (putK kvs k v))) s' -> Q () s') :
    wpAny (model X.prog X.w) A (dictSet a u r) Q E s := by
  obtain ⟨z,hd,vs,rel,dd⟩ := dk_of I.hok e
  have hz : vs.length <= sizeLine := by rw [<- rel.length]; exact z
  have hl : (putK kvs k v).length <= sizeLine := by have := length_putK kvs k v; omega
  refine wpAny_dictSet_pairs (hsz := hz) (kV_is ry) dd λ h' dd' hs => h _ ?_
  have he : ∃ q,h'.get? a = some q := let ⟨q,_,_,hq,_⟩ := dd'; ⟨q,hq⟩
  exact d_write I (by rw [e]; exact True.intro) hs he (dk_new hl hd (rel.put k rv) dd')
end
abbrev DcW := Nat -> Nat -> St -> Hp -> Prop
def dcStep (J : It) (g : TG) (tt : TT) (tk tv : TE) (D : Addr) (W : DcW) (Fin : Hp -> Prop) : Prop := ∀ i m τ H,W i m τ H ->
  (J.stop i H /\ Fin H) \/ (J.go i H /\ ∀ x H',J.yld i H x H' -> g x τ H' λ τ2 H2 => tt τ2 H2 λ b H3 =>
    if b = true then tk τ2 H3 λ y H4 => tv τ2 H4 λ z H5 => ∃ kvs k,H5 D = some (.dK kvs) /\ y = kV k /\ kvs.length < sizeLine /\ ∃ m',m' < m /\ W (i + 1) m' τ2 (upd H5 D (.dK (putK kvs k z))) else ∃ m',m' < m /\ W (i + 1) m' τ2 H3)
section
variable {X : Cx} {pins : List (Addr × Obj)} {σ : St} {H : Hp} {s : Shared} {sc : Scope} {own : List Str} {fr : List Nat} {cl : List (Str × Addr)} {fp : List Addr} {it D : Addr} {J : It} {tn : Nat -> Heap -> Prop} {g : TG} {tt : TT} {tk tv : TE} {W : DcW} {Fin : Hp -> Prop}
  {kx vx tg iter : Expr} {ifs : List Expr} {pos : Pos} {E : Value -> Shared -> Prop}
theorem dc_core {RR : Addr -> Result -> Shared -> Prop} (hc : X.calm = true) (L : LcOk X sc own fr) (hcl1 : ∀ n c,cl.lookup n = some c -> X.env.cells.lookup n = some c) (hcl2 : ∀ n,(n,NameKind.free) ∈ sc.names -> ∃ c,cl.lookup n = some c)
    (hg : ∀ C s H ex pl,PG (blk X sc (lcN X own fr) cl C s H ex pl) tg g) (ht : ∀ C s H ex pl,PTs (blk X sc (lcN X own fr) cl C s H ex pl) ifs tt) (hk : ∀ C s H ex pl,PE (blk X sc (lcN X own fr) cl C s H ex pl) kx tk) (hv : ∀ C s H ex pl,PE (blk X sc (lcN X own fr) cl C s H ex pl) vx tv)
    (I : Inv X pins σ H s) (T : Turn X.prog X.w X.K tg J fp it tn) (st : tn 0 s.heap) (hf : ∀ b ∈ fp,FpOk X pins H b) (w0 : ∃ m,W 0 m (lcS own.length fr σ) H) (turn : dcStep J g tt tk tv D W Fin)
    (hRR : ∀ (C : Addr) (s' : Shared) (H' : Hp) (m : Str -> Option Value),Inv X pins σ H' s' -> H' C = none -> s.heap.objs.size <= C -> s'.heap.Ns C m -> Fin H' -> RR C (.ok .next) s') :
    wpAny (model X.prog X.w) X.A (newFunctionEnv sc X.env.globals cl [] X.env.qual none .none (some X.env)) (λ cenv s₄ =>
      codeAny (model X.prog X.w) X.A (.compStart (.DictComp kx vx [⟨tg,iter,ifs,0⟩] sc pos) 0 (.ref it) (.ref D) { cenv with scope := relabel sc X.env }) (RR cenv.locals) s₄) E s := by
  refine wpAny_newFunctionEnv L.cell (by intro y hy; simp at hy) (λ h₁ hns₁ hsb₁ => ?_) L.kind
  try dsimp only at hns₁ hsb₁ ⊢
  have below : ∀ b,b < s.heap.objs.size -> b ≠ s.heap.objs.size := λ b hb => Nat.ne_of_lt hb
  have old : ∀ b o,s.heap.get? b = some o -> h₁.get? b = some o := λ b o e => hsb₁.extBut b o (below b (Heap.lt_size e)) (Heap.get?_push_of_some _ e)
  have hfb : ∀ b ∈ fp,b < s.heap.objs.size := λ b hb => by
    obtain ⟨o,e,_⟩ := T.obj 0 _ st b hb
    exact Heap.lt_size e
  have I1 : Inv (blk X sc (lcN X own fr) cl s.heap.objs.size s H fp pins) [] (lcS own.length fr σ) H { s with heap := h₁,toks := s.toks + ([] : List (Str × Value)).length } := blk_inv L I hf hfb (Nat.le_refl _) hcl1 hcl2 hns₁ old
  have st1 : tn 0 h₁ := T.keep 0 _ _ st λ b _ o e => old b o e
  generalize hY : blk X sc (lcN X own fr) cl s.heap.objs.size s H fp pins = Y at I1
  have hYp : Y.prog = X.prog := by rw [<- hY]; rfl
  have hYw : Y.w = X.w := by rw [<- hY]; rfl
  have hYK : Y.K = X.K := by rw [<- hY]; rfl
  have hYA : Y.A = X.A := by rw [<- hY]; rfl
  have hYc : Y.calm = true := by rw [<- hY]; exact hc
  have hYe : Y.env = compEnvC sc cl s.heap.objs.size X.env := by rw [<- hY]; rfl
  have hYx : Y.xe = λ _ _ => False := by rw [<- hY]; rfl
  have hYpn : Y.pn = X.pn ++ pins := by rw [<- hY]; rfl
  have hYs : Y.s₀ = s := by rw [<- hY]; rfl
  have hYH : Y.H₀ = H := by rw [<- hY]; rfl
  have hYex : Y.ex = fp := by rw [<- hY]; rfl
  have hYfs : Y.fs = frs X.stack := by rw [<- hY]; rfl
  have gY := hg s.heap.objs.size s H fp pins
  have tY := ht s.heap.objs.size s H fp pins
  have kY := hk s.heap.objs.size s H fp pins
  have vY := hv s.heap.objs.size s H fp pins
  rw [hY] at gY tY kY vY
  have fpY : ∀ {H' : Hp},(∀ b ∈ fp,H' b = none) -> ∀ b ∈ fp,FpOk Y [] H' b := λ {H'} hn b hb => by
    obtain ⟨_,f1,f2,f3,f4,f5⟩ := hf b hb
    refine ⟨hn b hb,by rw [hYe]; exact below b (hfb b hb),?_,.inl (by rw [hYex]; exact hb),λ x c e => ?_,λ p q => ?_⟩
    · rw [hYfs]
      intro z
      rcases List.mem_cons.mp (I.stkSub _ z) with e | e
      · exact f1 e
      · exact f2 e
    · rw [hYe] at e
      exact f4 x c (hcl1 _ _ e)
    · rw [List.append_nil,hYpn] at q
      exact f5 p q
  have loop : ∀ s₃ : Shared,s₃ = { s with heap := h₁,toks := s.toks + ([] : List (Str × Value)).length } ->
      codeAny (model X.prog X.w) X.A (.compLoop (.DictComp kx vx [⟨tg,iter,ifs,0⟩] sc pos) 0 (.ref it) (.ref D) (compEnvC sc cl s.heap.objs.size X.env)) (RR s.heap.objs.size) s₃ := by
    rintro s₃ rfl
    obtain ⟨m0,w0⟩ := w0
    refine compLoop_ownD (λ n s' => ∃ i τ H',Inv Y [] τ H' s' /\ tn i s'.heap /\ (∀ b ∈ fp,H' b = none) /\ W i n τ H') ?_ m0 ⟨0,_,H,I1,st1,λ b hb => (hf b hb).1,w0⟩
    rintro n s' ⟨i,τ,H',I',st',hn',w'⟩
    rcases turn i n τ H' w' with ⟨stop,fin⟩ | ⟨go,step⟩
    · have q := T.done Y hYp hYw hYK hYc i _ s' τ H' (λ _ _ => False) I' (fpY hn') st' stop
      rw [hYA] at q
      refine thn q λ r s4 hq78 => ?_
      obtain ⟨hr,I4⟩ := hq78
      subst hr
      have un : Un (frs X.stack) fp H H' s.heap s4.heap := by
        have z := I4.base
        rw [hYfs,hYex,hYH,hYs] at z
        exact z
      have os4 : s4.os = s.os := by
        have z := I4.os
        rw [hYs] at z
        exact z
      have hok4 : HOk X.prog X.w H' s4.heap := by
        have z := I4.hok
        rw [hYp,hYw] at z
        exact z
      have hch : ∀ b ∈ fp,(b ∈ X.ex \/ X.s₀.heap.objs.size <= b) /\ b ≠ X.env.locals /\ (∀ x c,X.env.cells.lookup x = some c -> c ≠ b) /\ ∀ p ∈ X.pn ++ pins,p.1 ≠ b := λ b hb => by
        obtain ⟨_,f1,f2,f3,f4,f5⟩ := hf b hb
        exact ⟨f3,f1,f4,f5⟩
      have IX : Inv X pins σ H' s4 := I.call' os4 un hok4 I4.bare hch
      obtain ⟨mC,hmC,_⟩ := I4.loc
      have hCf := I4.free
      rw [hYe] at hmC hCf
      exact hRR _ s4 H' mC IX hCf (Nat.le_refl _) hmC fin
    · have q := T.item Y hYp hYw hYK hYc i _ s' τ H' (λ _ _ => False) I' (fpY hn') st' go
      rw [hYA] at q
      refine thn q λ r s4 hq79 => ?_
      obtain ⟨u,hr,h4⟩ := hq79
      subst hr
      refine thn h4 λ _ s5 hq80 => ?_
      obtain ⟨x,H5,I5,r5,y5,st5,fr5⟩ := hq80
      have I5' := I5.pinned (fpY fr5) (T.obj _ _ st5)
      have g5 := gY _ s5 τ H5 x u _ I5' r5 (step x H5 y5)
      rw [hYp,hYw,hYA,hYe,hYx] at g5
      refine thn g5 λ _ s6 hq81 => ?_
      obtain ⟨σ6,H6,I6,q6⟩ := hq81
      have t6 := tY _ s6 σ6 H6 _ I6 q6
      rw [hYp,hYw,hYA,hYe,hYx] at t6
      refine thn t6 λ ok s7 hq82 => ?_
      obtain ⟨H7,I7,q7⟩ := hq82
      have keepI : ∀ {σ8 : St} {H8 : Hp} {s8 : Shared},Inv Y ([] ++ pinsAt fp s5.heap) σ8 H8 s8 -> tn (i + 1) s8.heap /\ ∀ b ∈ fp,H8 b = none :=
        λ {σ8 H8 s8} I8 => by
          refine ⟨T.keep _ _ _ st5 λ b hb o e => (I8.pin (b,o) (List.mem_append_right _ (List.mem_append_right _ (mem_pinsAt hb e)))).1,λ b hb => ?_⟩
          obtain ⟨o,e,d⟩ := T.obj _ _ st5 b hb
          exact (I8.pin (b,o) (List.mem_append_right _ (List.mem_append_right _ (mem_pinsAt hb e)))).2.1
      cases ok with
      | false =>
        rw [if_neg Bool.false_ne_true] at q7 ⊢
        obtain ⟨m',hm',w7⟩ := q7
        obtain ⟨c7,d7⟩ := keepI I7
        exact ⟨m',hm',i + 1,σ6,H7,I7.pins_of (λ p hp => (nomatch hp)),c7,d7,w7⟩
      | true =>
        rw [if_pos rfl] at q7 ⊢
        have e7 := kY _ s7 σ6 H7 _ I7 q7
        rw [hYp,hYw,hYA,hYe,hYx] at e7
        refine thn e7 λ ku s8 hq83 => ?_
        obtain ⟨y,H8,I8,r8,q8⟩ := hq83
        have e8 := vY _ s8 σ6 H8 _ I8 q8
        rw [hYp,hYw,hYA,hYe,hYx] at e8
        refine thn e8 λ vu s9 hq84 => ?_
        obtain ⟨z,H9,I9,r9,kvs,k,hD,ey,hlt,m',hm',w9⟩ := hq84
        subst ey
        have r8' : RelV (kV k) ku := r8
        have q9 := d_dictSet (A := X.A) (E := λ _ _ => False) (Q := λ _ s₆ => ∃ m,m < n /\ ∃ i τ H',Inv Y [] τ H' s₆ /\ tn i s₆.heap /\ (∀ b ∈ fp,H' b = none) /\ W i m τ H') I9 hD hlt r8' r9 λ s10 I10 => by
          obtain ⟨c8,d8⟩ := keepI I10
          exact ⟨m',hm',i + 1,σ6,_,I10.pins_of (λ p hp => (nomatch hp)),c8,d8,w9⟩
        rw [hYp,hYw] at q9
        exact q9
  exact codeAny_compStart_dict (loop _ rfl) (T.self _ 0 _ _ _ st1 (loop _ rfl))
def tDC (wi : TI) (g : TG) (tt : TT) (tk tv : TE) (k : Nat) (fr : List Nat) : TE := λ σ H Q => wi σ H λ J H1 => ∀ p,H1 p = none -> ∃ W : DcW,(∃ m,W 0 m (lcS k fr σ) (upd H1 p (.dK []))) /\ dcStep J g tt tk tv p W λ H2 => Q (.ref p) H2
theorem pe_dc {wi : TI} (hc : X.calm = true) (L : LcOk X sc own fr) (hi : PI X tg iter wi)
    (hg : ∀ cl C s H ex pl,PG (blk X sc (lcN X own fr) cl C s H ex pl) tg g) (ht : ∀ cl C s H ex pl,PTs (blk X sc (lcN X own fr) cl C s H ex pl) ifs tt) (hk : ∀ cl C s H ex pl,PE (blk X sc (lcN X own fr) cl C s H ex pl) kx tk) (hv : ∀ cl C s H ex pl,PE (blk X sc (lcN X own fr) cl C s H ex pl) vx tv)
    (hs : ∀ x,foldedSetIterable iter X.env x = pure x := by intro _; rfl) : PE X (.DictComp kx vx [⟨tg,iter,ifs,0⟩] sc pos) (tDC wi g tt tk tv own.length fr) := by
  intro pins s σ H Q I h
  obtain ⟨cl,hcl,c1,c2⟩ := lc_closure L I.ok
  show wpAny _ _ (comprehension (.DictComp kx vx [⟨tg,iter,ifs,0⟩] sc pos) sc X.env _ newDict false (eval iter X.env)) _ _ _
  refine wpAny_comprehension_free (use := none) (g := ⟨tg,iter,ifs,0⟩) (gs := []) rfl hs hcl L.kind L.names ?_
  refine thn (hi pins s σ H _ I h) λ v s1 h1 => thn h1 λ itv s2 h2 => ?_
  obtain ⟨it,fp,tn,J,H2,e,I2,T,st2,f2,q2⟩ := h2
  subst e
  obtain ⟨W,w0,turn⟩ := q2 _ (I2.hok.fresh (Nat.le_refl s2.heap.objs.size))
  refine wpAny_newObj_type ?_
  have I3 := I2.laid (a := s2.heap.objs.size) (o := .dK []) (h' := s2.heap.push { cls := .type "dict",data := .dict #[] }) (t' := s2.toks) (λ _ _ q => Heap.get?_push_of_some _ q) (Nat.le_refl _) (dk_empty s2.heap I2.big)
  have hfb : ∀ b ∈ fp,b < s2.heap.objs.size := λ b hb => by
    obtain ⟨o,e,_⟩ := T.obj 0 _ st2 b hb
    exact Heap.lt_size e
  have f3 : ∀ b ∈ fp,FpOk X pins (upd H2 s2.heap.objs.size (.dK [])) b := λ b hb => by
    obtain ⟨f0,fr⟩ := f2 b hb
    exact ⟨by rw [upd_ne (Nat.ne_of_lt (hfb b hb))]; exact f0,fr⟩
  have st3 : tn 0 (s2.heap.push { cls := .type "dict",data := .dict #[] }) := T.keep 0 _ _ st2 λ b _ o e => Heap.get?_push_of_some _ e
  refine dc_core (cl := cl) hc L c1 c2 (hg cl) (ht cl) (hk cl) (hv cl) I3 T st3 f3 w0 turn λ C s' H' m I' hC dC hns fin => ?_
  refine ⟨m,hns,λ h' sb => ?_⟩
  have hC2 : s2.heap.objs.size <= C := Nat.le_trans (by rw [Heap.size_push]; exact Nat.le_succ _) dC
  obtain ⟨_,z2,_,_,z3,z4⟩ := I2.fpOk (H' := λ _ => none) hC2 rfl
  have I4 : Inv X pins σ H' { s' with heap := h' } := I'.turned (t' := s'.toks) (λ b o hb e => sb.extBut b o hb e) hC z2 (.inr (Nat.le_trans I2.sz hC2)) z3 z4
  exact ⟨.ref _,_,I4,rfl,fin⟩
end
end L2
set_option Elab.async false
set_option linter.all false
set_option maxRecDepth 100000
set_option maxHeartbeats 4000000
namespace D
open PySem PySem.Spec PyProof.Rows L2
section
variable {K : PySem.W.Frag}
def dDC (di : TId) (g : TGd) (tt : TTd) (tk tv : TD) (k : Nat) (fr : List Nat) (τ : DS) (M : MH) (Q : QD) : Prop := di τ M λ ws M1 => ∀ p,M1 p = none -> ∃ P : Nat -> DS -> MH -> Prop,P 0 (lcSD k fr τ) (updM M1 p (.dic [])) /\
  (∀ i w τ M,ws[i]? = some w -> P i τ M -> g w τ M λ τ2 M2 => tt τ2 M2 λ b M3 => if b = true then tk τ2 M3 λ y M4 => tv τ2 M4 λ z M5 => ∃ kvs key,M5 p = some (.dic kvs) /\ y = kW key /\ kvs.length < sizeLine /\ P (i + 1) τ2 (updM M5 p (.dic (tput kvs key z))) else P (i + 1) τ2 M3) /\
  ∀ τ M,P ws.length τ M -> Q (.m p) M
theorem imp_dc {di : TId} {g : TGd} {tt : TTd} {tk tv : TD} {k : Nat} {fr : List Nat} {σ : St} {H : Hp} {Q : VK} (h : up K (dDC di g tt tk tv k fr) σ H Q) :
    tDC (upI K di) (upG K g) (upT K tt) (up K tk) (up K tv) k fr σ H Q := by
  obtain ⟨τ,M,Qd,A,h,kk⟩ := h
  refine ⟨τ,M,_,A,h,λ J H1 ws M1 kp m1 it hall p hp => ?_⟩
  obtain ⟨P,p0,pt,pe⟩ := hall p (m1.free hp)
  have kpn : Kp H1 (upd H1 p (.dK [])) := Kp.new hp
  have mn : MAbs K (upd H1 p (.dK [])) (updM M1 p (.dic [])) := m1.put (mo := .dic []) kpn ⟨_,upd_same,.nil⟩
  refine ⟨λ i n σ' H' => n = ws.length - i /\ i <= ws.length /\ Kp (upd H1 p (.dK [])) H' /\ ∃ τ M,Abs K H' σ' τ M /\ P i τ M,⟨ws.length,by simp,Nat.zero_le _,Kp.refl _,_,_,abs_lc (A.go (kp.trans kpn) mn) k fr,p0⟩,?_⟩
  rintro i n σ2 H2 ⟨rfl,hi,kp2,τ2,M2,A2,p2⟩
  obtain ⟨go,stop,yld⟩ := it H2 (kpn.trans kp2) i
  by_cases hlt : i < ws.length
  · refine .inr ⟨go hlt,λ x H3 y => ?_⟩
    obtain ⟨kp3,mk,w,ew,rw⟩ := yld x H3 hlt y
    refine ⟨w,τ2,M2,_,rw,A2.go kp3 (mk _ A2.mem),pt i w τ2 M2 ew p2,λ σ4 H4 τ4 M4 kp4 A4 q4 => ⟨τ4,M4,_,A4,q4,λ b H5 M5 kp5 m5 q5 => ?_⟩⟩
    have kq := (kp3.trans kp4).trans kp5
    cases b with
    | false =>
      rw [if_neg Bool.false_ne_true] at q5
      exact iteF ⟨ws.length - (i + 1),by omega,rfl,hlt,kp2.trans kq,τ4,M5,A4.go kp5 m5,q5⟩
    | true =>
      rw [if_pos rfl] at q5
      refine iteT ⟨τ4,M5,_,A4.go kp5 m5,q5,λ ky H6 wy M6 kp6 r6 m6 q6 => ⟨τ4,M6,_,A4.go (kp5.trans kp6) m6,q6,λ v H7 wv M7 kp7 r7 m7 hq85 => ?_⟩⟩
      obtain ⟨kvs,key,hm,ey,hl,q7⟩ := hq85
      subst ey
      obtain ⟨l,e,pr⟩ := m7 _ _ hm
      have kp8 : Kp H7 (upd H7 p (.dK (putK l key v))) := Kp.set e (λ _ z => nomatch z) (λ _ _ z => nomatch z)
      refine ⟨l,key,e,kW_rep r6,by rw [<- tb_len pr]; exact hl,ws.length - (i + 1),by omega,rfl,hlt,kp2.trans (((kq.trans kp6).trans kp7).trans kp8),τ4,_,A4.go (((kp5.trans kp6).trans kp7).trans kp8) (m7.put (mo := .dic (tput kvs key wv)) kp8 ⟨_,upd_same,?_⟩),q7⟩
      exact Paired.mapP (tb_put key r7 pr) λ p q z => ⟨z.1,z.2.keep kp8⟩
  · have hl : i = ws.length := by omega
    subst hl
    refine .inl ⟨stop (Nat.le_refl _),?_⟩
    exact kk _ H2 (.m p) M2 (kp.trans (kpn.trans kp2)) rfl A2.mem (pe τ2 M2 p2)
variable {X : Cx} {sc : Scope} {own : List Str} {fr : List Nat} {di : TId} {g : TGd} {tt : TTd} {tk tv : TD} {tg iter kx vx : Expr} {ifs : List Expr} {pos : Pos}
theorem pd_dc0 (hc : X.calm = true) (L : LcOk X sc own fr) (hi : PId X tg iter di)
    (hg : ∀ cl C s H ex pl,PGd (blk X sc (lcN X own fr) cl C s H ex pl) tg g) (ht : ∀ cl C s H ex pl,PTsd (blk X sc (lcN X own fr) cl C s H ex pl) ifs tt) (hk : ∀ cl C s H ex pl,PD (blk X sc (lcN X own fr) cl C s H ex pl) kx tk) (hv : ∀ cl C s H ex pl,PD (blk X sc (lcN X own fr) cl C s H ex pl) vx tv)
    (hs : ∀ x,foldedSetIterable iter X.env x = pure x := by intro _; rfl) : PD X (.DictComp kx vx [⟨tg,iter,ifs,0⟩] sc pos) (dDC di g tt tk tv own.length fr) :=
  pe_w (pe_dc hc L hi hg ht hk hv hs) λ σ H Q h => imp_dc h
end
end D
namespace Q
open PySem PySem.Spec PyProof.Rows L2 D
section
variable {X : Cx} {sc : Scope} {own : List Str} {fr : List Nat} {di : TId} {g : TGd} {tt : TTd} {tk tv : TD} {tg iter kx vx : Expr} {ifs : List Expr} {pos : Pos}
theorem pd_dc (hc : X.calm = true) (L : LcOk X sc own fr) (hi : Jd (PId X tg iter di))
    (hg : ∀ cl C s H ex pl,Jd (PGd (blk X sc (lcN X own fr) cl C s H ex pl) tg g)) (ht : ∀ cl C s H ex pl,Jd (PTsd (blk X sc (lcN X own fr) cl C s H ex pl) ifs tt)) (hk : ∀ cl C s H ex pl,Jd (PD (blk X sc (lcN X own fr) cl C s H ex pl) kx tk)) (hv : ∀ cl C s H ex pl,Jd (PD (blk X sc (lcN X own fr) cl C s H ex pl) vx tv))
    (hs : ∀ x,foldedSetIterable iter X.env x = pure x := by intro _; rfl) : Jd (PD X (.DictComp kx vx [⟨tg,iter,ifs,0⟩] sc pos) (dDC di g tt tk tv own.length fr)) :=
  ⟨D.pd_dc0 hc L hi.h (λ cl C s H ex pl => (hg cl C s H ex pl).h) (λ cl C s H ex pl => (ht cl C s H ex pl).h) (λ cl C s H ex pl => (hk cl C s H ex pl).h) (λ cl C s H ex pl => (hv cl C s H ex pl).h) hs⟩
end
end Q
set_option Elab.async false
set_option linter.all false
set_option maxRecDepth 100000
set_option maxHeartbeats 4000000
namespace L2
open PySem PySem.Spec PyProof.Rows
section
variable {X : Cx} {sc : Scope} {own : List Str} {fr : List Nat} {g : TG} {tt : TT} {tk tv : TE} {kx vx tg iter : Expr} {ifs : List Expr} {pos : Pos}
end
end L2
namespace D
open PySem PySem.Spec PyProof.Rows L2
section
variable {X : Cx} {sc : Scope} {own : List Str} {fr : List Nat} {di : TId} {g : TGd} {tt : TTd} {tk tv : TD} {tg iter kx vx : Expr} {ifs : List Expr} {pos : Pos}
end
end D
namespace Q
open PySem PySem.Spec PyProof.Rows L2 D
section
variable {X : Cx} {sc : Scope} {own : List Str} {fr : List Nat} {di : TId} {g : TGd} {tt : TTd} {tk tv : TD} {tg iter kx vx : Expr} {ifs : List Expr} {pos : Pos}
end
end Q
set_option Elab.async false
set_option linter.all false
set_option maxRecDepth 100000
set_option maxHeartbeats 4000000
namespace D
open PySem PySem.Spec PyProof.Rows L2
section
variable {X : Cx} {C : Addr} {o value : Expr} {fn : Str} {pos tpos : Pos} {td tv : TD}
def dFldAug (C : Addr) (td tv : TD) (fn : Str) (f : Int -> Int -> Int) (D : Ed) (τ : DS) (M : MH) : Prop := td τ M λ w M1 => ∃ a fs i,w = .m a /\ M1 a = some (.ins C fs) /\ fs.lookup fn = some (.d (.int i)) /\
  tv τ M1 λ y M2 => ∃ j fs',y = .d (.int j) /\ M2 a = some (.ins C fs') /\ fs'.length < 1000 /\ D.nx τ (updM M2 a (.ins C (putW fn (.d (.int (f i j))) fs')))
theorem psd_fldaug0 {op : Operator} {f : Int -> Int -> Int} (c : Cls X.K C) (n : NoAttr X.K C fn) (ha : PD X o td) (hv : PD X value tv) (hop : PIp X op (ipI f)) : PSd X (.AugAssign (.Attribute o fn tpos) op value pos) (dFldAug C td tv fn f) :=
  ps_w (ps_fldaug (rd := ipI f) ha hv hop) λ D σ H h => by
    obtain ⟨τ,M,Dd,A,h,k1,_⟩ := h
    refine ⟨τ,M,_,A,h,λ x H1 w M1 kp1 r1 m1 hq86 => ?_⟩
    obtain ⟨a,fs,i,ew,hm,hl,q1⟩ := hq86
    subst ew
    obtain ⟨dx,l,e,pr⟩ := m1 _ _ hm
    have g := fr_lookup fn pr
    rw [hl] at g
    obtain ⟨b,eb,rb⟩ := OR.some_of g
    simp only [RepW,RepD] at rb
    subst rb
    refine ⟨a,C,dx,l,_,r1,e,c,n,eb,τ,M1,_,A.go kp1 m1,q1,λ y H2 wy M2 kp2 r2 m2 hq87 => ?_⟩
    obtain ⟨j,fs',ey,hm2,hl2,q2⟩ := hq87
    subst ey
    simp only [RepW,RepD] at r2
    subst r2
    obtain ⟨dx2,l2,e2,pr2⟩ := m2 _ _ hm2
    refine ⟨i,j,rfl,rfl,dx2,l2,e2,by rw [<- fr_len pr2]; exact hl2,?_⟩
    have kp4 : Kp H2 (upd H2 a (.ins C dx2 (putF fn (.int (f i j)) l2))) := Kp.set e2 (λ _ z => nomatch z) (λ _ _ z => nomatch z)
    refine k1 _ _ _ _ ((kp1.trans kp2).trans kp4) (A.go ((kp1.trans kp2).trans kp4) (m2.put (mo := .ins C (putW fn (.d (.int (f i j))) fs')) kp4 ⟨dx2,_,upd_same,?_⟩)) q2
    exact FRep.keep kp4 (fr_put fn (w := .d (.int (f i j))) (by simp [RepW,RepD]) pr2)
end
end D
namespace Q
open PySem PySem.Spec PyProof.Rows L2 D
section
variable {X : Cx} {C : Addr} {o value : Expr} {fn : Str} {pos tpos : Pos} {td tv : TD}
theorem psd_fldaug {op : Operator} {f : Int -> Int -> Int} (c : Cls X.K C) (n : NoAttr X.K C fn) (ha : Jd (PD X o td)) (hv : Jd (PD X value tv)) (hop : PIp X op (ipI f)) : Jd (PSd X (.AugAssign (.Attribute o fn tpos) op value pos) (dFldAug C td tv fn f)) := ⟨D.psd_fldaug0 c n ha.h hv.h hop⟩
end
end Q
set_option Elab.async false
set_option linter.all false
set_option maxRecDepth 100000
set_option maxHeartbeats 4000000
namespace D
open PySem PySem.Spec PyProof.Rows L2
def Itv (a : Addr) (o : Obj) (l : List (Key × V)) : It :=
  ⟨λ i H => H a = some (stillH o l) /\ i < l.length,λ i H x H' => H' = H /\ ∃ kv,l[i]? = some kv /\ x = kv.2,λ i H => H a = some (stillH o l) /\ l.length <= i⟩
theorem turn_dvals {P : Program} {w : World} {K : PySem.W.Frag} {tg : Expr} (a it : Addr) (o : Obj) (l : List (Key × V)) (es : Array DictEntry) (ep : Nat) (ho : o.data = .dict es ep)
    (hself : ∀ (A : Around) (i : Nat) (s : Shared) (Q : Value -> Shared -> Prop) (E : Value -> Shared -> Prop),s.heap.IsValIter it a i l.length ep -> Q (.ref it) s -> wpAny (model P w) A (pyIter (.ref it)) Q E s) :
    Turn P w K tg (Itv a o l) [it] it (λ i h => h.IsValIter it a i l.length ep) where
  mem := by simp
  obj := λ i h st b hb => by
    have e : b = it := by simpa using hb
    subst e
    obtain ⟨o,e,c,d⟩ := st
    exact ⟨o,e,λ v z => by rw [d] at z; cases z⟩
  keep := λ i h h' ⟨o,e,c,d⟩ k => ⟨o,k it (by simp) _ e,c,d⟩
  item := by
    intro X hP hw hK hc i pins s σ H E I hf st ⟨hg,hi⟩
    subst hP hw hK
    obtain ⟨f0,f1,f2,f3,f4,f5⟩ := hf it (by simp)
    obtain ⟨hd,vs,es',ep',rel,ho',da⟩ := still_at I.hok hg
    rw [ho] at ho'
    cases ho'
    obtain ⟨kv,k,v,e1,e2,e3,e4⟩ := kv_at rel hi
    have hl : l.length = vs.length := rel.length
    rw [hl] at st
    refine wpAny_pyNext_values_item st da e2 λ h' st' sb => ?_
    have I1 : Inv X pins σ H { s with heap := h' } := I.turned (t' := s.toks) (λ b o hb e => (sb.2 b hb).trans e) f0 f1 f3 f4 f5
    obtain ⟨ob,e,c,d⟩ := id st'
    exact ⟨_,rfl,go_of (s := { s with heap := h' }) e c d (by decide) ⟨kv.2,H,I1,e4,⟨rfl,kv,e1,rfl⟩,by rw [hl]; exact st',λ b hb => (hf b hb).1⟩⟩
  done := by
    intro X hP hw hK hc i pins s σ H E I hf st ⟨hg,hi⟩
    subst hP hw hK
    obtain ⟨f0,f1,f2,f3,f4,f5⟩ := hf it (by simp)
    obtain ⟨hd,vs,es',ep',rel,ho',da⟩ := still_at I.hok hg
    rw [ho] at ho'
    cases ho'
    have hl : l.length = vs.length := rel.length
    rw [hl] at st hi
    exact wpAny_pyNext_values_end (I.ok.hd hc) st da (List.getElem?_eq_none hi) λ h' eb => ⟨rfl,I.turned (t' := s.toks) (λ b o hb e => eb b o hb e) f0 f1 f3 f4 f5⟩
  self := λ A i s Q E st h => hself A i s Q E st h
theorem valiter_self {P : Program} {w : World} {it a : Addr} {n ep : Nat} (A : Around) (i : Nat) (s : Shared) (Q : Value -> Shared -> Prop) (E : Value -> Shared -> Prop) (st : s.heap.IsValIter it a i n ep) (h : Q (.ref it) s) : wpAny (model P w) A (pyIter (.ref it)) Q E s :=
  wpAny_pyIter_valiter st h
section
variable {X : Cx} {tg o : Expr} {apos cpos : Pos} {td : TE}
def iDVals (td : TE) : TI := λ σ H R => td σ H λ x H1 => ∃ a o l,x = .ref a /\ H1 a = some (stillH o l) /\ R (Itv a o l) H1
theorem pi_dvals (ho : PE X o td) (hbase : attributeBase o "values" X.env (eval o X.env) = eval o X.env := by rfl) (hline : (apos.endLine == cpos.line) = true := by rfl) :
    PI X tg (.Call (.Attribute o "values" apos) [] [] cpos) (iDVals td) := by
  intro pins s σ H R I h
  refine wpAny_Call_method0_late hbase hline (thn (ho pins s σ H _ I h) λ v s1 hq88 => ?_)
  obtain ⟨x,H1,I1,r1,a,ob,l,ex,hg,q⟩ := hq88
  subst ex
  cases r1
  obtain ⟨hd,vs,es,ep,rel,hdat,da⟩ := still_at I1.hok hg
  have dd : s1.heap.DictOf (mixKind X.prog X.w) a vs := let ⟨o,es,h⟩ := da; ⟨o,es,ep,h⟩
  have hnd : ∀ b,Value.ref a = .ref b -> ∃ ob,s1.heap.get? b = some ob /\ ob.dict = none := λ b e => by
    cases e
    obtain ⟨oo,es',h1,h2,_⟩ := da
    exact ⟨oo,h1,h2.2.1⟩
  refine ⟨"dict", "dict.values",PySem.F.plainAttrs_dict,PySem.F.slot_dict_values,PySem.F.type_dict_values,dd.typeIs,hnd,Calls.callWith_builtin rfl (PySem.evalArgs_none ?_)⟩
  refine call_meetsIn PySem.F.slot_dict_values dd.typeIs PySem.F.entry_dict_values (PySem.F.args_dict_values_1 _) (meets_dict_values (mixKind X.prog X.w) a hd) ⟨⟨vs,dd⟩,?_⟩
  have I2 : Inv X pins σ H1 { s1 with heap := s1.heap.push { cls := .type "dict_values",data := .fields #[.ref a] } } := I1.kept (t' := s1.toks) λ b o e => Heap.get?_push_of_some _ e
  obtain ⟨_,vs2,es2,ep2,rel2,hdat2,da2⟩ := still_at I2.hok hg
  rw [hdat] at hdat2
  cases hdat2
  refine wpAny_pyIter_values ⟨_,Heap.get?_push_size _ rfl,rfl,rfl⟩ da2 ?_
  refine ⟨_,[_],_,_,H1,rfl,I2.kept (t' := s1.toks) λ b o e => Heap.get?_push_of_some _ e,turn_dvals a _ ob l es ep hdat valiter_self,⟨_,Heap.get?_push_size _ rfl,rfl,?_⟩,λ b hb => ?_,q⟩
  · rw [rel2.length]; rfl
  · rw [List.mem_singleton] at hb
    rw [hb]
    exact I2.fpOk (Nat.le_refl _) (I2.hok.fresh (Nat.le_refl _))
end
section
variable {X : Cx} {K : PySem.W.Frag} {tg o : Expr} {apos cpos : Pos} {td : TD}
def valsOfW (kds : List (Key × PyData)) : List W := kds.map λ p => .d p.2
def dDVals (td : TD) (τ : DS) (M : MH) (R : List W -> MH -> Prop) : Prop := td τ M λ w M1 => ∃ a kds,w = .m a /\ M1 a = some (.fdic (dataKV kds)) /\ R (valsOfW kds) M1
theorem pid_dvals0 (ho : PD X o td) (hbase : attributeBase o "values" X.env (eval o X.env) = eval o X.env := by rfl) (hline : (apos.endLine == cpos.line) = true := by rfl) : PId X tg (.Call (.Attribute o "values" apos) [] [] cpos) (dDVals td) := pi_w (pi_dvals ho hbase hline) λ σ H R hq89 => by
  obtain ⟨τ,M,Rd,A,h,k⟩ := hq89
  refine ⟨τ,M,_,A,h,λ v H1 w M1 kp r m hq90 => ?_⟩
  obtain ⟨a,kds,ew,hm,q⟩ := hq90
  subst ew
  obtain ⟨ob,l,e,pr⟩ := m _ _ hm
  obtain ⟨hlen,hget⟩ := pr_get pr
  refine ⟨a,ob,l,r,e,k _ H1 _ M1 kp m (λ H2 kp2 i => ?_) q⟩
  have hlw : (valsOfW kds).length = l.length := by rw [hlen]; simp [valsOfW]
  have e2 := kp2.frz a ob _ e
  refine ⟨λ hi => ⟨e2,by omega⟩,λ hi => ⟨e2,by omega⟩,λ x H' hi hq91 => ?_⟩
  obtain ⟨eH,kv,hkv,ex⟩ := hq91
  subst ex eH
  obtain ⟨p,e3,e4,e5⟩ := hget i kv hkv
  exact ⟨Kp.refl _,λ M m => m,.d p.2,by simp [valsOfW,e3],e5.keep kp2⟩
end
end D
namespace Q
open PySem PySem.Spec PyProof.Rows L2 D
section
variable {X : Cx} {tg o : Expr} {apos cpos : Pos} {td : TD}
theorem pid_dvals (ho : Jd (PD X o td)) (hbase : attributeBase o "values" X.env (eval o X.env) = eval o X.env := by rfl) (hline : (apos.endLine == cpos.line) = true := by rfl) : Jd (PId X tg (.Call (.Attribute o "values" apos) [] [] cpos) (dDVals td)) := ⟨D.pid_dvals0 ho.h hbase hline⟩
end
end Q
set_option Elab.async false
set_option linter.all false
set_option maxRecDepth 100000
set_option maxHeartbeats 4000000
namespace D
open PySem PySem.Spec PyProof.Rows L2
section
variable {X : Cx} {K : PySem.W.Frag}
theorem call_sortedI : CallR X (.builtin "sorted") (λ xs H Q => ∃ p,∃ ns : List Int,xs = [.ref p] /\ SqL X.K H p (ns.map V.int) /\ ns.length < 64 /\ ∀ ns' : List Int,ns'.Perm ns -> (ns'.Pairwise (· <= ·)) -> ∀ l,H l = none -> Q (.ref l) (upd H l (.lst (ns'.map V.int)))) := by
  intro pins s σ H xs us Q I r h
  obtain ⟨p,ns,rfl,hq,hz,q⟩ := h
  obtain ⟨u,rfl,rx⟩ := vals1 r
  cases rx
  obtain ⟨its,rv,pl,_⟩ := I.list hq
  have hl := rv.length
  rw [List.length_map] at hl
  have hI : IntsAre its ns := by have := intsAre_of rv; simpa using this
  refine sorted_ints pl.isList hI (by omega) λ out ns' hs hp hso => ?_
  obtain ⟨n,e⟩ := sortedAll_at s.heap its out
  have hfr : H (s.heap.objs.size + 1) = none := I.hok.fresh (Nat.le_succ _)
  refine ⟨.ref _,_,I.laid (a := s.heap.objs.size + 1) (o := .lst (ns'.map V.int)) (t' := s.toks) (λ b o z => sortedAll_old z) (Nat.le_succ _) ⟨?_,out.toList,n,vals_intsV hs,?_⟩,rfl,q ns' hp hso _ hfr⟩
  · rw [List.length_map,hp.length_eq]
    have := s16
    omega
  · simpa using e
def rdSortI (ws : List W) (M : MH) (Q : QD) : Prop := ∃ w,∃ ns : List Int,ws = [w] /\ LstW M w (ns.map PyData.int) /\ ns.length < 64 /\ ∀ ns' : List Int,ns'.Perm ns -> (ns'.Pairwise (· <= ·)) -> ∀ p,M p = none -> Q (.m p) (updM M p (.lst (intsW ns')))
theorem cd_sortI : CallD K (λ xs H Q => ∃ p,∃ ns : List Int,xs = [.ref p] /\ SqL K H p (ns.map V.int) /\ ns.length < 64 /\ ∀ ns' : List Int,ns'.Perm ns -> (ns'.Pairwise (· <= ·)) -> ∀ l,H l = none -> Q (.ref l) (upd H l (.lst (ns'.map V.int)))) rdSortI := by
  intro vs H ws M Qd Q r m ⟨w,ns,e,g,hz,q⟩ k
  subst e
  obtain ⟨v,e1,r1⟩ := repWs1 r
  obtain ⟨p,ys,ev,hs,ra⟩ := g.sound r1 m
  have ey := repA_ints ra
  subst ev ey
  refine ⟨p,ns,e1,hs,hz,λ ns' h1 h2 l hl => ?_⟩
  have kp : Kp H (upd H l (.lst (ns'.map V.int))) := Kp.new hl
  exact k _ _ (.m l) _ kp rfl (m.put (mo := .lst (intsW ns')) kp ⟨_,upd_same,reps_ints ns'⟩) (q ns' h1 h2 l (m.free hl))
end
end D
set_option Elab.async false
set_option linter.all false
set_option maxRecDepth 100000
set_option maxHeartbeats 4000000
namespace D
open PySem PySem.Spec PyProof.Rows L2
section
variable {X : Cx} {o : Expr} {to : TE} {apos cpos p pos : Pos}
end
section
variable {X : Cx} {o : Expr} {td : TD} {apos cpos p pos : Pos}
namespace Q
end Q
end
end D
set_option Elab.async false
set_option linter.all false
set_option maxRecDepth 100000
set_option maxHeartbeats 4000000
namespace PySem
namespace Dp
theorem keys_none : typeLookup (.type "list") "keys" = pure none := am_miss_of_fast (by decide +kernel)
theorem entry_upd : entryFor table "dict.update.loop" = some Builtin.«dict.update.loop» := entryFor_of_tree (by kernel_rfl)
theorem plain_upd : plainId "dict.update.loop" = true := by decide +kernel
section
variable {prog : Program} {w : World} {A : Around} {E : Value -> Shared -> Prop} {s : Shared}
set_option maxHeartbeats 1600000 in
theorem getAttrQ_keys {a : Addr} {xs : Array Value} {k : Nat} {sl : Array (Option Value)} {Q : Option Value -> Shared -> Prop}
    (hx : s.heap.get? a = some { cls := .type "list",dict := none,data := .seq xs k,slots := sl }) (hA : A.handled = none)
    (h : ∀ h' tk,(∀ b ob,s.heap.get? b = some ob -> h'.get? b = some ob) -> Q none { s with heap := h',toks := tk }) :
    wpAny (model prog w) A (getAttr? (.ref a) "keys") Q E s := by
  obtain ⟨hp,g,d,tk,os⟩ := s
  have hT : ∀ tk',(⟨hp,g,d,tk',os⟩ : Shared).TypeIs (.ref a) "list" := λ _ => ⟨_,hx,rfl⟩
  have f1 := sub_AttributeError
  have f3 := F.slot_list_getattribute.lookup
  have f4 := F.slot_list_getattribute.bind (.ref a)
  have f5 := am_list_getattr_none
  have hsz : ("keys" : Str).length + 100 <= sizeLine := by size_fits
  have hname : (["__module__", "__name__", "__qualname__", "__doc__", "__annotations__"] : List Str).contains "keys" = false := by decide +kernel
  unfold getAttr? getAttrBy? getAttrBy
  repeat (any_goals (first | assumption | exact hT _ | ((with_reducible show wpAny _ _ (call (Value.builtin "list.__getattribute__") _ _) _ _ _); refine call_meets F.slot_list_getattribute (hT _) am_entry_list_getattribute (F.args_list_getattribute_2 _ _) (meets_getattribute_miss_list a xs k sl "keys" _ keys_none hname hsz) ⟨hx,hA,λ h' tk' e hx' => ?_⟩) | wp_step))
  obtain ⟨t',u',he⟩ := hx'.there
  show wpAny _ _ (getattributeRaised _ _ _ _ _ _ _) _ _ _
  unfold getattributeRaised
  repeat (any_goals (first | assumption | wp_step))
  exact h _ _ hx'.keeps
variable {K : Type} [DecidableEq K] {knd : KeyKind prog w K}
theorem loop {I D l : Addr} {items : Array Value} {kvs : List (K × Value)} {R : Result -> Shared -> Prop} {h0 : Heap} (hh : A.handled = none) (hDI : D ≠ I) (hDl : D ≠ l) (hlI : l ≠ I) (hsz : kvs.length <= sizeLine) (hlen : items.size = kvs.length)
    (ht : ∀ i (hi : i < kvs.length),∃ a key k dct sl,items[i]? = some (.ref a) /\ a ≠ D /\ a ≠ I /\ knd.is kvs[i].1 key = true /\ h0.get? a = some { cls := .type "tuple",dict := dct,data := .seq #[key,kvs[i].2] k,slots := sl }) :
    ∀ (j i : Nat) (s : Shared),kvs.length - i = j -> i <= kvs.length -> s.heap.IsListIter I l i -> s.heap.IsList l items -> s.heap.DictOf knd D (merged [] (kvs.take i)) -> (∀ b o,b ≠ D -> b ≠ I -> h0.get? b = some o -> s.heap.get? b = some o) ->
      (∀ h' tk,h'.DictOf knd D (merged [] kvs) -> (∀ b o,b ≠ D -> b ≠ I -> h0.get? b = some o -> h'.get? b = some o) -> R (.ok (.ret .none)) { s with heap := h',toks := tk }) ->
      codeAny (model prog w) A (.builtin "dict.update.loop" ⟨[.ref D,.ref I,rawInt i,.none],[]⟩) R s := by
  intro j
  induction j with
  | zero =>
    intro i s hj hi hit hl hd hk hR
    have hin : i = kvs.length := by omega
    subst hin
    refine codeAny_builtin entry_upd ?_
    rw [Around.under_plainId plain_upd _]
    show wpAny _ A.in1 (pyNext (.ref I) >>= _) _ _ s
    refine wpAny_bind (wpAny_pyNext_list_end (by simpa using hh) hit hl (by simp [hlen]) λ h' he' => ?_)
    show wpAny _ A.in1 (Builtin.Dict.addKeywords D [] >>= _) _ _ _
    refine wpAny_bind (wpAny_pure (wpAny_pure ?_))
    rw [List.take_length] at hd
    refine hR h' s.toks ?_ λ b o b1 b2 e => he' b o b2 (hk b o b1 b2 e)
    obtain ⟨o,es,ep,ho,rest⟩ := hd
    exact ⟨o,es,ep,he' D o hDI ho,rest⟩
  | succ j ih =>
    intro i s hj hi hit hl hd hk hR
    have hlt : i < kvs.length := by omega
    obtain ⟨a,key,k,dct,sl,e1,a1,a2,hkey,e2⟩ := ht i hlt
    refine codeAny_builtin entry_upd ?_
    rw [Around.under_plainId plain_upd _]
    show wpAny _ A.in1 (pyNext (.ref I) >>= _) _ _ s
    refine wpAny_bind (wpAny_pyNext_list_item hit hl e1 λ h' hit' hs' => ?_)
    have e3 : h'.get? a = some { cls := .type "tuple",dict := dct,data := .seq #[key,kvs[i].2] k,slots := sl } := hs'.extBut a _ a2 (hk a _ a1 a2 e2)
    have hT : Shared.TypeIs { s with heap := h' } (.ref a) "tuple" := ⟨_,e3,rfl⟩
    have hd' : h'.DictOf knd D (merged [] (kvs.take i)) := by
      obtain ⟨o,es,ep,ho,rest⟩ := hd
      exact ⟨o,es,ep,hs'.extBut D o hDI ho,rest⟩
    have hl' : h'.IsList l items := hl.extBut hs'.extBut hlI
    show wpAny _ A.in1 (holding [Value.ref a] _ >>= _) _ _ _
    refine wpAny_bind (wpAny_holding ?_)
    refine wpAny_bind (m := tryCatch (Builtin.Dict.pairItems (.ref a)) _) (wpAny_tryCatch ?_)
    unfold Builtin.Dict.pairItems
    refine wpAny_bind (wpAny_typeOf hT ?_)
    rw [if_pos (by decide)]
    unfold seqItems?
    obtain ⟨hp,g,d,tk,os⟩ := s
    generalize hDS : dictSet = DS
    repeat (any_goals (first | assumption | wp_step))
    subst hDS
    have hl2 : (merged [] (kvs.take i)).length <= sizeLine := by have := merged_length_le [] (kvs.take i); simp at this; omega
    refine wpAny_dictSet_pairs (hsz := hl2) hkey hd' λ h2 hd2 hs2 => ?_
    refine wpAny_pure ⟨plainId_quiet plain_upd _,ih (i + 1) _ (by omega) hlt ?_ ?_ ?_ ?_ ?_⟩
    · exact hit'.at λ o e => hs2.extBut I o (Ne.symm hDI) e
    · exact hl'.extBut hs2.extBut (Ne.symm hDl)
    · rw [merged_take_succ [] kvs i kvs[i] (List.getElem?_eq_getElem hlt)]
      exact hd2
    · exact λ b o b1 b2 e => hs2.extBut b o b1 (hs'.extBut b o b2 (hk b o b1 b2 e))
    · exact λ h' tk d k => hR h' tk d k
set_option maxHeartbeats 1600000 in
theorem call_dict_pairs {l : Addr} {items : Array Value} {kk : Nat} {sl0 : Array (Option Value)} {kvs : List (K × Value)} {Q : Value -> Shared -> Prop} (hh : A.handled = none) (hsz : kvs.length <= sizeLine) (hlen : items.size = kvs.length)
    (hl : s.heap.get? l = some { cls := .type "list",dict := none,data := .seq items kk,slots := sl0 })
    (ht : ∀ i (hi : i < kvs.length),∃ a key k dct sl,items[i]? = some (.ref a) /\ knd.is kvs[i].1 key = true /\ s.heap.get? a = some { cls := .type "tuple",dict := dct,data := .seq #[key,kvs[i].2] k,slots := sl })
    (h : ∀ h' tk,h'.DictOf knd s.heap.objs.size (merged [] kvs) -> (∀ b o,s.heap.get? b = some o -> h'.get? b = some o) -> Q (.ref s.heap.objs.size) { s with heap := h',toks := tk }) :
    wpAny (model prog w) A (call (.type "dict") [.ref l]) Q E s := by
  refine callType_codes (Q₁ := λ obj s₁ => obj = .ref s.heap.objs.size /\ s₁ = { s with heap := s.heap.push { cls := .type "dict",data := .dict #[] } }) F.kt_called_dict (F.kt_typeCall_dict_1 _) F.entry_dict_init (kt_code_dict_new _ ⟨rfl,rfl⟩) ?_
  rintro obj s₁ ⟨rfl,rfl⟩
  have hnew : (s.heap.push { cls := .type "dict",data := .dict #[] }).DictOf knd s.heap.objs.size [] := Heap.DictOf.new s.heap
  have hl1 : (s.heap.push { cls := .type "dict",data := .dict #[] }).get? l = some { cls := .type "list",dict := none,data := .seq items kk,slots := sl0 } := Heap.get?_push_of_some _ hl
  have hT : Shared.TypeIs { s with heap := s.heap.push { cls := .type "dict",data := .dict #[] } } (.ref l) "list" := ⟨_,hl1,rfl⟩
  refine ⟨hnew.typeIs,F.args_dict_init_2 _ _,?_⟩
  unfold Builtin.«dict.__init__»
  refine wpAny_bind ?_
  unfold Builtin.Dict.selfAndRest
  refine wpAny_bind (wpAny_notOrdered_dict hnew.typeIs ?_)
  show wpAny _ _ (pure (s.heap.objs.size,[Value.ref l])) _ _ _
  refine wpAny_pure ?_
  show wpAny _ _ (Builtin.Dict.updateFrom "dict.__init__" s.heap.objs.size (.ref l) [] .none) _ _ _
  unfold Builtin.Dict.updateFrom
  refine wpAny_bind (wpAny_typeOf hT ?_)
  rw [if_pos (by decide)]
  refine wpAny_bind (getAttrQ_keys hl1 (by simpa using hh) λ h2 tk2 k2 => ?_)
  rw [if_pos (by rfl)]
  have hl2 : h2.get? l = some { cls := .type "list",dict := none,data := .seq items kk,slots := sl0 } := k2 _ _ hl1
  have il2 : h2.IsList l items := ⟨_,hl2,rfl,kk,rfl⟩
  refine wpAny_bind (wpAny_rule (wpAny_bind (wpAny_pyIter_list il2 ?_)))
  have z : s.heap.objs.size < h2.objs.size := by
    obtain ⟨o,_,_,ho,_⟩ := hnew
    exact Heap.lt_size (k2 _ _ ho)
  have zl : l < s.heap.objs.size := Heap.lt_size hl
  have d2 : h2.DictOf knd s.heap.objs.size [] := by
    obtain ⟨o,es,ep,ho,rest⟩ := hnew
    exact ⟨o,es,ep,k2 _ _ ho,rest⟩
  refine wpAny_pure ⟨plainId_quiet plain_upd _,loop (knd := knd) (h0 := h2) (by simpa using hh) (Nat.ne_of_lt z) (Ne.symm (Nat.ne_of_lt zl)) (Nat.ne_of_lt (Nat.lt_trans zl z)) hsz hlen (λ i hi => ?_) kvs.length 0 _ (by omega) (Nat.zero_le _) ⟨_,Heap.get?_push_size _ rfl,rfl,rfl⟩ (il2.push _) ?_ (λ b o _ _ e => Heap.get?_push_of_some _ e) λ h' tk dd keep => ?_⟩
  · obtain ⟨a,key,k,dct,sl,e1,hk,e2⟩ := ht i hi
    have za : a < s.heap.objs.size := Heap.lt_size e2
    exact ⟨a,key,k,dct,sl,e1,Nat.ne_of_lt za,Nat.ne_of_lt (Nat.lt_trans za z),hk,k2 _ _ (Heap.get?_push_of_some _ e2)⟩
  · exact d2.push _
  · refine ⟨rfl,h h' tk dd λ b o e => ?_⟩
    have zb : b < s.heap.objs.size := Heap.lt_size e
    exact keep b o (Nat.ne_of_lt zb) (Nat.ne_of_lt (Nat.lt_trans zb z)) (k2 _ _ (Heap.get?_push_of_some _ e))
end
end Dp
end PySem
namespace D
open PySem PySem.Spec PyProof.Rows L2
section
variable {X : Cx} {K : PySem.W.Frag}
theorem pairs_at {pins : List (Addr × Obj)} {σ : St} {H : Hp} {s : Shared} (I : Inv X pins σ H s) : ∀ {kvs : List (Key × V)} {vs : List V} {its : List Value},Paired (λ (v : V) (kv : Key × V) => ∃ a,v = .ref a /\ SqT X.K H a [kV kv.1,kv.2]) vs kvs -> Vals vs its ->
    ∃ ks : List (Key × Value),KV kvs ks /\ its.length = ks.length /\ ∀ i (hi : i < ks.length),∃ a key k dct sl,its[i]? = some (.ref a) /\ (mixKind X.prog X.w).is ks[i].1 key = true /\ s.heap.get? a = some { cls := .type "tuple",dict := dct,data := .seq #[key,ks[i].2] k,slots := sl }
  | _,_,_,.nil,.nil => ⟨[],.nil,rfl,λ i hi => by simp at hi⟩
  | _,_,_,.cons (b := b) ⟨a,ea,hq⟩ t,.cons r1 r2 => by
    obtain ⟨ks,h1,h2,h3⟩ := pairs_at I t r2
    subst ea
    cases r1
    obtain ⟨its,rv,⟨o,e1,e2,n,e3⟩,_⟩ := I.tuple hq
    obtain ⟨c,dct,dat,sl⟩ := o
    simp only at e2 e3
    subst e2 e3
    match its,rv,e1 with
    | [u1,u2],.cons q1 (.cons q2 .nil),e1 =>
      refine ⟨(b.1,u2) :: ks,.cons ⟨rfl,q2⟩ h1,by simp [h2],λ i hi => ?_⟩
      cases i with
      | zero => exact ⟨a,u1,n,dct,sl,rfl,kV_is q1,e1⟩
      | succ i =>
        have hi' : i < ks.length := by simpa using hi
        obtain ⟨a',key,k',dct',sl',z1,z2,z3⟩ := h3 i hi'
        exact ⟨a',key,k',dct',sl',by simpa using z1,z2,z3⟩
theorem kv_keys : ∀ {kvs : List (Key × V)} {ks : List (Key × Value)},KV kvs ks -> ks.map (·.1) = kvs.map (·.1)
  | _,_,.nil => rfl
  | _,_,.cons r t => by
    rw [List.map_cons,List.map_cons,kv_keys t,r.1]
theorem call_dictPs (hc : X.calm = true) : CallR X (.type "dict") (λ xs H Q => ∃ p vs,∃ kvs : List (Key × V),xs = [.ref p] /\ SqL X.K H p vs /\ Paired (λ (v : V) (kv : Key × V) => ∃ a,v = .ref a /\ SqT X.K H a [kV kv.1,kv.2]) vs kvs /\ (kvs.map (·.1)).Nodup /\ ∀ l,H l = none -> Q (.ref l) (upd H l (.dK kvs))) := by
  intro pins s σ H xs us Q I r h
  obtain ⟨p,vs,kvs,rfl,hq,pr,nd,q⟩ := h
  obtain ⟨u,rfl,rx⟩ := vals1 r
  cases rx
  obtain ⟨its,rv,⟨o,n,e0,e1,e2,e3⟩,hz⟩ := I.list hq
  obtain ⟨c,dct,dat,sl⟩ := o
  simp only at e1 e2 e3
  subst e1 e2 e3
  obtain ⟨ks,rel,hl,hk⟩ := pairs_at I pr rv
  have hz2 : ks.length <= sizeLine := by rw [<- hl]; have := rv.length; omega
  have nd2 : (ks.map (·.1)).Nodup := by rw [kv_keys rel]; exact nd
  refine Dp.call_dict_pairs (knd := mixKind X.prog X.w) (I.ok.hd hc) hz2 (by simpa using hl) e0 (λ i hi => ?_) λ h' tk dd keep => ?_
  · obtain ⟨a,key,k,dct,sl,z1,z2,z3⟩ := hk i hi
    exact ⟨a,key,k,dct,sl,by simpa using z1,z2,z3⟩
  · rw [merged_nil_of_nodup ks nd2] at dd
    exact ⟨.ref _,_,I.laid (a := s.heap.objs.size) (o := .dK kvs) (t' := tk) keep (Nat.le_refl _) (dk_new (by rw [rel.length]; exact hz2) (beq_eq_false_iff_ne.mpr (Ne.symm (Nat.ne_of_lt I.big))) rel dd),rfl,q _ (I.hok.fresh (Nat.le_refl _))⟩
def pairD (p : Key × PyData) : PyData := .tuple [keyD p.1,p.2]
def rdDictPs (ws : List W) (M : MH) (Q : QD) : Prop := ∃ w,∃ kds : List (Key × PyData),ws = [w] /\ LstW M w (kds.map pairD) /\ (kds.map (·.1)).Nodup /\ ∀ p,M p = none -> Q (.m p) (updM M p (.dic (dataKV kds)))
theorem repA_pairs {H : Hp} : ∀ {kds : List (Key × PyData)} {ys : List V},RepA K H (kds.map pairD) ys -> ∃ kvs : List (Key × V),Paired (λ (v : V) (kv : Key × V) => ∃ a,v = .ref a /\ SqT K H a [kV kv.1,kv.2]) ys kvs /\ Paired (λ (p : Key × W) (q : Key × V) => p.1 = q.1 /\ RepW K H p.2 q.2) (dataKV kds) kvs
  | [],ys,h => by
    have e : ys = [] := by simpa [RepA] using h
    subst e
    exact ⟨[],.nil,.nil⟩
  | kd :: kds,ys,h => by
    simp only [List.map_cons,pairD,RepA,RepD] at h
    obtain ⟨v,ys,rfl,⟨a,zs,ev,hq,v1,zs1,e1,rk,v2,zs2,e2,rx,e3⟩,rest⟩ := h
    obtain ⟨kvs,h1,h2⟩ := repA_pairs rest
    have ek := key_rep rk
    subst e1 e2 e3 ek ev
    exact ⟨(kd.1,v2) :: kvs,.cons ⟨a,rfl,hq⟩ h1,.cons ⟨rfl,rx⟩ h2⟩
theorem pr_keys {H : Hp} : ∀ {kds : List (Key × PyData)} {kvs : List (Key × V)},Paired (λ (p : Key × W) (q : Key × V) => p.1 = q.1 /\ RepW K H p.2 q.2) (dataKV kds) kvs -> kvs.map (·.1) = kds.map (·.1)
  | [],_,.nil => rfl
  | kd :: kds,_,.cons r t => by rw [List.map_cons,List.map_cons,pr_keys t,<- r.1]
theorem cd_dictPs : CallD K (λ xs H Q => ∃ p vs,∃ kvs : List (Key × V),xs = [.ref p] /\ SqL K H p vs /\ Paired (λ (v : V) (kv : Key × V) => ∃ a,v = .ref a /\ SqT K H a [kV kv.1,kv.2]) vs kvs /\ (kvs.map (·.1)).Nodup /\ ∀ l,H l = none -> Q (.ref l) (upd H l (.dK kvs))) rdDictPs := by
  intro vs H ws M Qd Q r m ⟨w,kds,e,g,nd,q⟩ k
  subst e
  obtain ⟨v,e1,r1⟩ := repWs1 r
  obtain ⟨p,ys,ev,hs,ra⟩ := g.sound r1 m
  subst ev
  obtain ⟨kvs,h1,h2⟩ := repA_pairs ra
  refine ⟨p,ys,kvs,e1,hs,h1,by rw [pr_keys h2]; exact nd,λ l hl => ?_⟩
  have kp : Kp H (upd H l (.dK kvs)) := Kp.new hl
  exact k _ _ (.m l) _ kp rfl (m.put (mo := .dic (dataKV kds)) kp ⟨kvs,upd_same,Paired.mapP h2 λ p q z => ⟨z.1,z.2.keep kp⟩⟩) (q l (m.free hl))
end
end D
set_option Elab.async false
set_option linter.all false
set_option maxRecDepth 100000
set_option maxHeartbeats 4000000
namespace Stc
open PySem PySem.Spec PyProof.Rows L2 D Rc
def LayR : List Int -> List Int -> Prop
  | _,[] => True
  | rs,d :: ds => ∃ T U : List Int,(T ++ U).Perm rs /\ (T.length : Int) = d /\ (∀ t ∈ T,0 < t) /\ LayR (T.map (λ m => m - 1) ++ U) ds
end Stc
set_option Elab.async false
set_option linter.all false
set_option maxRecDepth 100000
set_option maxHeartbeats 4000000
namespace D
open PySem PySem.Spec PyProof.Rows L2
section
variable {X : Cx} {K : PySem.W.Frag}
def dParG (n : Nat) (t : TAd) (gs : TGsd) (D : Ed) (τ : DS) (M : MH) : Prop := t τ M λ ws M1 => ws.length = n /\ n <= sizeLine /\ gs ws τ M1 D.nx
theorem psd_parG0 {es ts : List Expr} {t : TAd} {gs : TGsd} {k k2 n : Nat} {p1 p2 pos : Pos} (hc : X.calm = true) (ha : PAd X es t) (hg : PGsd X ts gs) (hn : (assignEach ts X.env).length = n := by rfl) (hst : (assignEach ts X.env).findIdx? (·.1) = none := by rfl)
    (hs : swapsWithSole [.Tuple ts k p1] (.Tuple es k2 p2) pos.line X.env = pure false := by rfl) (hw : swappedStores [.Tuple ts k p1] (.Tuple es k2 p2) X.env = pure none := by rfl)
    (h1 : (assignEach [.Tuple ts k p1] X.env).map (·.2) = [assign (.Tuple ts k p1) X.env] := by rfl) : PSd X (.Assign [.Tuple ts k p1] (.Tuple es k2 p2) pos) (dParG n t gs) :=
  ps_w (ps_asg (pe_tup ha) (pg_tup hc hg hn hst) hs hw h1) λ D σ H h => by
    obtain ⟨τ,M,Dd,A,h,k1,_⟩ := h
    refine ⟨τ,M,_,A,h,λ vs H1 ws M1 kp1 r1 m1 hq92 => ?_⟩
    obtain ⟨el,hz,q⟩ := hq92
    have hl := r1.length
    refine ⟨by omega,λ p hp => ?_⟩
    have kp2 : Kp H1 (upd H1 p (.tup vs)) := Kp.new hp
    refine ⟨p,vs,rfl,.inl (.inl upd_same),by omega,ws,τ,M1,_,RepWs.keep kp2 r1,A.go (kp1.trans kp2) (m1.new hp),q,λ σ' H' τ' M' kp' A' q' => ?_⟩
    exact k1 σ' H' τ' M' ((kp1.trans kp2).trans kp') A' q'
def sStill (t : TS) : TS := λ D σ H => ∃ a l,H a = some (.dK l) /\ ∀ o,t
  { nx := λ σ' H' => H' a = some (.frz o (.frz o (.dK l))) /\ D.nx σ' (upd H' a (.dK l)),rt := λ v H' => H' a = some (.frz o (.frz o (.dK l))) /\ D.rt v (upd H' a (.dK l)),
    bk := λ σ' H' => H' a = some (.frz o (.frz o (.dK l))) /\ D.bk σ' (upd H' a (.dK l)),ct := λ σ' H' => H' a = some (.frz o (.frz o (.dK l))) /\ D.ct σ' (upd H' a (.dK l)) } σ (upd H a (.frz o (.frz o (.dK l))))
theorem ps_still {st : Stmt} {t : TS} (h : PS X st t) : PS X st (sStill t) := by
  intro pins s σ H D I ⟨a,l,ha,q⟩
  obtain ⟨o,I1⟩ := Inv.still I ha
  refine thn (h pins s σ _ _ I1 (q o)) λ f s1 hf => ?_
  cases f with
  | next => obtain ⟨σ',H',I2,e,q2⟩ := hf; exact ⟨σ',_,Inv.again I ha I2 e,q2⟩
  | brk => obtain ⟨σ',H',I2,e,q2⟩ := hf; exact ⟨σ',_,Inv.again I ha I2 e,q2⟩
  | cont => obtain ⟨σ',H',I2,e,q2⟩ := hf; exact ⟨σ',_,Inv.again I ha I2 e,q2⟩
  | ret u => obtain ⟨v,σ',H',I2,r,e,q2⟩ := hf; exact ⟨v,σ',_,Inv.again I ha I2 e,r,q2⟩
def dStillS (t : TSd) (D : Ed) (τ : DS) (M : MH) : Prop := ∃ a kvs,M a = some (.dic kvs) /\ t
  { nx := λ τ' M' => M' a = some (.fdic kvs) /\ D.nx τ' (updM M' a (.dic kvs)),rt := λ w M' => M' a = some (.fdic kvs) /\ D.rt w (updM M' a (.dic kvs)),
    bk := λ τ' M' => M' a = some (.fdic kvs) /\ D.bk τ' (updM M' a (.dic kvs)),ct := λ τ' M' => M' a = some (.fdic kvs) /\ D.ct τ' (updM M' a (.dic kvs)) } τ (updM M a (.fdic kvs))
theorem Abs.back {H : Hp} {σ : St} {τ : DS} {M : MH} {a : Addr} {o : Obj} {l : List (Key × V)} {kvs : List (Key × W)} (h : H a = some (.frz o (.frz o (.dK l)))) (A : Abs K H σ τ M) (e : M a = some (.fdic kvs)) : Abs K (upd H a (.dK l)) σ τ (updM M a (.dic kvs)) :=
  ⟨A.len,λ i w q => let ⟨v,q1,r⟩ := A.val i w q; ⟨v,q1,RepW.back h r⟩,MAbs.back h A.mem e⟩
theorem psd_still0 {st : Stmt} {t : TSd} (h : PSd X st t) : PSd X st (dStillS t) := ps_w (ps_still h) λ D σ H hq93 => by
  obtain ⟨τ,M,Dd,A,⟨a,kvs,hm,q⟩,k1,k2,k3,k4⟩ := hq93
  obtain ⟨l,e,pr⟩ := A.mem _ _ hm
  refine ⟨a,l,e,λ o => ?_⟩
  have kp : Kp H (upd H a (.frz o (.frz o (.dK l)))) := Kp.set e (λ _ z => nomatch z) (λ _ _ z => nomatch z)
  have m1 : MAbs X.K (upd H a (.frz o (.frz o (.dK l)))) (updM M a (.fdic kvs)) := A.mem.put (mo := .fdic kvs) kp ⟨o,l,upd_same,Paired.mapP pr λ p q z => ⟨z.1,z.2.keep kp⟩⟩
  have kpb : ∀ H',Kp (upd H a (.frz o (.frz o (.dK l)))) H' -> Kp H (upd H' a (.dK l)) := λ H' kp' => ⟨λ b xs z => by
      have hb : b ≠ a := λ y => by rw [y,e] at z; cases z
      rw [upd_ne hb]
      exact kp'.tup b xs (by rw [upd_ne hb]; exact z),λ b ob u z => by
      have hb : b ≠ a := λ y => by rw [y,e] at z; cases z
      rw [upd_ne hb]
      exact kp'.frz b ob u (by rw [upd_ne hb]; exact z)⟩
  refine ⟨τ,_,_,A.go kp m1,q,?_,?_,?_,?_⟩
  · rintro σ' H' τ' M' kp' A' ⟨h1,q1⟩
    have e' := kp'.frz a o _ upd_same
    exact ⟨e',k1 _ _ _ _ (kpb H' kp') (Abs.back e' A' h1) q1⟩
  · rintro v H' w M' kp' r' m' ⟨h1,q1⟩
    have e' := kp'.frz a o _ upd_same
    exact ⟨e',k2 _ _ _ _ (kpb H' kp') (RepW.back e' r') (MAbs.back e' m' h1) q1⟩
  · rintro σ' H' τ' M' kp' A' ⟨h1,q1⟩
    have e' := kp'.frz a o _ upd_same
    exact ⟨e',k3 _ _ _ _ (kpb H' kp') (Abs.back e' A' h1) q1⟩
  · rintro σ' H' τ' M' kp' A' ⟨h1,q1⟩
    have e' := kp'.frz a o _ upd_same
    exact ⟨e',k4 _ _ _ _ (kpb H' kp') (Abs.back e' A' h1) q1⟩
def rdRep (w w' : W) (M : MH) (Q : QD) : Prop := ∃ a ws n,w = .m a /\ w' = .d (.int n) /\ M a = some (.lst ws) /\ 0 <= n /\ n <= 1000 /\ ws.length <= 1000 /\ ∀ p,M p = none -> Q (.m p) (updM M p (.lst (List.replicate n.toNat ws).flatten))
theorem reps_rep {H : Hp} {ws : List W} {vs : List V} (r : RepWs K H ws vs) : ∀ n : Nat,RepWs K H (List.replicate n ws).flatten (List.replicate n vs).flatten
  | 0 => .nil
  | n + 1 => by
    rw [List.replicate_succ,List.replicate_succ,List.flatten_cons,List.flatten_cons]
    exact r.append (reps_rep r n)
theorem opd_rep : OpD K rRep rdRep := by
  intro x y H w w' M Qd Q r1 r2 m ⟨a,ws,n,e1,e2,hm,h0,h1,hl,q⟩ k
  subst e1 e2
  simp only [RepW,RepD] at r1 r2
  obtain ⟨vs,e,rr⟩ := m _ _ hm
  have hlen := rr.length
  refine ⟨a,n,vs,r1,r2,e,by omega,by omega,?_,λ p hp => ?_⟩
  · have h2 : vs.length * n.toNat <= 1000 * 1000 := Nat.mul_le_mul (by omega) (by omega)
    have := s16
    omega
  · have kp : Kp H (upd H p (.lst (List.replicate n.toNat vs).flatten)) := Kp.new hp
    exact k _ _ (.m p) _ kp rfl (m.put (mo := .lst (List.replicate n.toNat ws).flatten) kp ⟨_,upd_same,(reps_rep rr n.toNat).keep kp⟩) (q p (m.free hp))
end
namespace Q
section
variable {X : Cx} {pos : Pos}
theorem psd_parG {es ts : List Expr} {t : TAd} {gs : TGsd} {k k2 n : Nat} {p1 p2 pos : Pos} (hc : X.calm = true) (ha : Jd (PAd X es t)) (hg : Jd (PGsd X ts gs)) (hn : (assignEach ts X.env).length = n := by rfl) (hst : (assignEach ts X.env).findIdx? (·.1) = none := by rfl)
    (hs : swapsWithSole [.Tuple ts k p1] (.Tuple es k2 p2) pos.line X.env = pure false := by rfl) (hw : swappedStores [.Tuple ts k p1] (.Tuple es k2 p2) X.env = pure none := by rfl)
    (h1 : (assignEach [.Tuple ts k p1] X.env).map (·.2) = [assign (.Tuple ts k p1) X.env] := by rfl) : Jd (PSd X (.Assign [.Tuple ts k p1] (.Tuple es k2 p2) pos) (dParG n t gs)) := ⟨D.psd_parG0 hc ha.h hg.h hn hst hs hw h1⟩
theorem psd_still {st : Stmt} {t : TSd} (h : Jd (PSd X st t)) : Jd (PSd X st (dStillS t)) := ⟨D.psd_still0 h.h⟩
end
end Q
end D
set_option Elab.async false
set_option linter.all false
set_option maxRecDepth 100000
set_option maxHeartbeats 4000000
namespace D
open PySem PySem.Spec PyProof.Rows L2
def Tw (H H' : Hp) : Prop := Kp H H' /\ ∀ b vs,H b = some (.lst vs) -> H' b = some (.lst vs) \/ ∃ o,H' b = some (.frz o (.lst vs))
section
variable {X : Cx} {pins : List (Addr × Obj)} {σ : St} {s : Shared}
end
end D
set_option Elab.async false
set_option linter.all false
set_option maxRecDepth 100000
set_option maxHeartbeats 4000000
namespace D
open PySem PySem.Spec PyProof.Rows L2
section
variable {X : Cx} {pins : List (Addr × Obj)} {σ : St} {H : Hp} {s : Shared}
end
section
variable {X : Cx}
end
def DatN (M : MH) : Nat -> W -> PyData -> Prop
  | 0,w,d => w = .d d
  | n + 1,w,d => w = .d d \/ (∃ a ws ds,w = .m a /\ M a = some (.lst ws) /\ d = .list ds /\ Paired (DatN M n) ws ds) \/ ∃ a ws ds,w = .m a /\ M a = some (.tup ws) /\ d = .tuple ds /\ Paired (DatN M n) ws ds
section
variable {X : Cx} {K : PySem.W.Frag}
end
end D
set_option Elab.async false
set_option linter.all false
set_option maxRecDepth 100000
set_option maxHeartbeats 4000000
namespace D
open PySem PySem.Spec PyProof.Rows L2
section
variable {X : Cx} {pins : List (Addr × Obj)} {σ : St} {H H0 : Hp} {s s0 : Shared}
theorem base_ofL {a : Addr} {l : List V} (I : Inv X pins σ H s) (h : H a = some (.lst l)) : (∀ xs,X.H₀ a ≠ some (.tup xs)) /\ (∀ o v,X.H₀ a ≠ some (.frz o v)) /\ ∀ ps,X.H₀ a ≠ some (.tbl ps) := by
  refine ⟨λ xs e => ?_,λ o v e => ?_,λ ps e => ?_⟩
  · have := I.base.tups a xs e; rw [h] at this; cases this
  · have := I.base.frzs a o v e; rw [h] at this; cases this
  · obtain ⟨m,this⟩ := I.base.tbls a ps e; rw [h] at this; cases this
theorem Inv.stillL {a : Addr} {l : List V} (I : Inv X pins σ H s) (h : H a = some (.lst l)) : ∃ o,Inv X pins σ (upd H a (.frz o (.frz o (.lst l)))) s := by
  have f : Fz (.lst l) := trivial
  obtain ⟨o,ho⟩ := (I.hok a _ h).obj f
  obtain ⟨b1,b2,b3⟩ := base_ofL I h
  exact ⟨o,Inv.swap I h (λ _ z => nomatch z) (λ _ z => nomatch z) b1 b2 b3 ⟨ho,ho,(I.hok a _ h).anyH f⟩⟩
theorem Inv.againL {σ0 : St} {a : Addr} {o : Obj} {l : List V} (I0 : Inv X pins σ0 H0 s0) (h0 : H0 a = some (.lst l)) (I : Inv X pins σ H s) (h : H a = some (.frz o (.frz o (.lst l)))) : Inv X pins σ (upd H a (.lst l)) s := by
  have f : Fz (.lst l) := trivial
  obtain ⟨b1,b2,b3⟩ := base_ofL I0 h0
  exact Inv.swap I h (λ _ z => nomatch z) (λ _ z => nomatch z) b1 b2 b3 ((I.hok a _ h).2.2.anyH f)
end
def sStillL (t : TS) : TS := λ D σ H => ∃ a l,H a = some (.lst l) /\ ∀ o,t
  { nx := λ σ' H' => H' a = some (.frz o (.frz o (.lst l))) /\ D.nx σ' (upd H' a (.lst l)),rt := λ v H' => H' a = some (.frz o (.frz o (.lst l))) /\ D.rt v (upd H' a (.lst l)),
    bk := λ σ' H' => H' a = some (.frz o (.frz o (.lst l))) /\ D.bk σ' (upd H' a (.lst l)),ct := λ σ' H' => H' a = some (.frz o (.frz o (.lst l))) /\ D.ct σ' (upd H' a (.lst l)) } σ (upd H a (.frz o (.frz o (.lst l))))
theorem ps_stillL {X : Cx} {st : Stmt} {t : TS} (h : PS X st t) : PS X st (sStillL t) := by
  intro pins s σ H D I ⟨a,l,ha,q⟩
  obtain ⟨o,I1⟩ := Inv.stillL I ha
  refine thn (h pins s σ _ _ I1 (q o)) λ f s1 hf => ?_
  cases f with
  | next => obtain ⟨σ',H',I2,e,q2⟩ := hf; exact ⟨σ',_,Inv.againL I ha I2 e,q2⟩
  | brk => obtain ⟨σ',H',I2,e,q2⟩ := hf; exact ⟨σ',_,Inv.againL I ha I2 e,q2⟩
  | cont => obtain ⟨σ',H',I2,e,q2⟩ := hf; exact ⟨σ',_,Inv.againL I ha I2 e,q2⟩
  | ret u => obtain ⟨v,σ',H',I2,r,e,q2⟩ := hf; exact ⟨v,σ',_,Inv.againL I ha I2 e,r,q2⟩
section
variable {K : PySem.W.Frag} {H : Hp} {a : Addr} {o : Obj} {l : List V}
theorem Kp.backL (h : H a = some (.frz o (.frz o (.lst l)))) : (∀ b xs,H b = some (.tup xs) -> upd H a (.lst l) b = some (.tup xs)) /\ (∀ b ob ys,H b = some (.frz ob (.lst ys)) -> upd H a (.lst l) b = some (.frz ob (.lst ys))) /\ ∀ b ob ys,H b = some (.frz ob (.dK ys)) -> upd H a (.lst l) b = some (.frz ob (.dK ys)) := by
  refine ⟨λ b xs e => ?_,λ b ob ys e => ?_,λ b ob ys e => ?_⟩ <;>
  · rw [upd_ne (λ z => by rw [z,h] at e; cases e)]; exact e
theorem SqT.backL {b : Addr} {vs : List V} (h : H a = some (.frz o (.frz o (.lst l)))) (r : SqT K H b vs) : SqT K (upd H a (.lst l)) b vs := by
  rcases r with (r | ⟨ob,r⟩) | r
  · exact .inl (.inl ((Kp.backL h).1 _ _ r))
  · refine .inl (.inr ⟨ob,?_⟩)
    rw [upd_ne (λ z => by rw [z,h] at r; cases r)]; exact r
  · exact .inr r
theorem SqF.backL {b : Addr} {vs : List V} (h : H a = some (.frz o (.frz o (.lst l)))) (r : SqF K H b vs) : SqF K (upd H a (.lst l)) b vs := by
  rcases r with ⟨ob,r⟩ | r
  · exact .inl ⟨ob,(Kp.backL h).2.1 _ _ _ r⟩
  · exact .inr r
mutual
theorem RepD.backL (h : H a = some (.frz o (.frz o (.lst l)))) : ∀ {d : PyData} {v : V},RepD K H d v -> RepD K (upd H a (.lst l)) d v
  | .none,v,r => by simp only [RepD] at r ⊢; exact r
  | .bool b,v,r => by simp only [RepD] at r ⊢; exact r
  | .int i,v,r => by simp only [RepD] at r ⊢; exact r
  | .str x,v,r => by simp only [RepD] at r ⊢; exact r
  | .list ds,v,r => by
    simp only [RepD] at r ⊢
    obtain ⟨b,vs,e,q,r⟩ := r
    exact ⟨b,vs,e,SqF.backL h q,RepA.backL h r⟩
  | .tuple ds,v,r => by
    simp only [RepD] at r ⊢
    obtain ⟨b,vs,e,q,r⟩ := r
    exact ⟨b,vs,e,SqT.backL h q,RepA.backL h r⟩
  | .dict kvs,v,r => by
    simp only [RepD] at r ⊢
    obtain ⟨b,ob,m,e,q,r⟩ := r
    exact ⟨b,ob,m,e,(Kp.backL h).2.2 _ _ _ q,RepK.backL h r⟩
theorem RepA.backL (h : H a = some (.frz o (.frz o (.lst l)))) : ∀ {ds : List PyData} {vs : List V},RepA K H ds vs -> RepA K (upd H a (.lst l)) ds vs
  | [],vs,r => by simp only [RepA] at r ⊢; exact r
  | d :: ds,vs,r => by
    simp only [RepA] at r ⊢
    obtain ⟨v,q,e,h1,h2⟩ := r
    exact ⟨v,q,e,RepD.backL h h1,RepA.backL h h2⟩
theorem RepK.backL (h : H a = some (.frz o (.frz o (.lst l)))) : ∀ {ds : List (PyData × PyData)} {m : List (Key × V)},RepK K H ds m -> RepK K (upd H a (.lst l)) ds m
  | [],m,r => by simp only [RepK] at r ⊢; exact r
  | (key,d) :: ds,m,r => by
    simp only [RepK] at r ⊢
    obtain ⟨k',v,q,e,ek,h1,h2⟩ := r
    exact ⟨k',v,q,e,ek,RepD.backL h h1,RepK.backL h h2⟩
end
theorem RepW.backL (h : H a = some (.frz o (.frz o (.lst l)))) : ∀ {w : W} {v : V},RepW K H w v -> RepW K (upd H a (.lst l)) w v
  | .d _,_,r => RepD.backL h r
  | .m _,_,r => r
  | .t _,_,r => r
theorem MAbs.backL {M : MH} {ws0 : List W} (h : H a = some (.frz o (.frz o (.lst l)))) (m : MAbs K H M) (e : M a = some (.flst ws0)) : MAbs K (upd H a (.lst l)) (updM M a (.lst ws0)) := λ b mo q => by
  by_cases hb : b = a
  · subst hb
    rw [updM_same] at q
    cases q
    obtain ⟨o',l',e',pr⟩ := m _ _ e
    rw [h] at e'
    cases e'
    exact ⟨l,upd_same,Paired.mapP pr λ _ _ z => RepW.backL h z⟩
  · rw [updM_ne hb] at q
    have r := m b mo q
    cases mo with
    | lst ws => obtain ⟨vs,e,r⟩ := r; exact ⟨vs,by rw [upd_ne hb]; exact e,Paired.mapP r λ _ _ z => RepW.backL h z⟩
    | dic kvs => obtain ⟨l,e,r⟩ := r; exact ⟨l,by rw [upd_ne hb]; exact e,Paired.mapP r λ p q z => ⟨z.1,RepW.backL h z.2⟩⟩
    | dct kvs => obtain ⟨l,e,r⟩ := r; exact ⟨l,by rw [upd_ne hb]; exact e,Paired.mapP r λ p q z => ⟨z.1,RepW.backL h z.2⟩⟩
    | fdic kvs => obtain ⟨o,l,e,r⟩ := r; exact ⟨o,l,by rw [upd_ne hb]; exact e,Paired.mapP r λ p q z => ⟨z.1,RepW.backL h z.2⟩⟩
    | ins C fs => obtain ⟨dx,l,e,r⟩ := r; exact ⟨dx,l,by rw [upd_ne hb]; exact e,Paired.mapP r λ p q z => ⟨z.1,RepW.backL h z.2⟩⟩
    | tup ws => obtain ⟨vs,e,r⟩ := r; exact ⟨vs,by rw [upd_ne hb]; exact e,Paired.mapP r λ _ _ z => RepW.backL h z⟩
    | flst ws => obtain ⟨o,vs,e,r⟩ := r; exact ⟨o,vs,by rw [upd_ne hb]; exact e,Paired.mapP r λ _ _ z => RepW.backL h z⟩
    | exc C fs =>
      obtain ⟨φ,dct,e,p,r⟩ := r
      refine ⟨φ,dct,by rw [upd_ne hb]; exact e,p,?_⟩
      rcases r with r | ⟨dx,o',l',e1,e2,r⟩
      · exact .inl r
      · exact .inr ⟨dx,o',l',e1,by rw [upd_ne (λ z => by rw [z,h] at e2; cases e2)]; exact e2,Paired.mapP r λ p q z => ⟨z.1,RepW.backL h z.2⟩⟩
theorem Abs.backL {σ : St} {τ : DS} {M : MH} {ws0 : List W} (h : H a = some (.frz o (.frz o (.lst l)))) (A : Abs K H σ τ M) (e : M a = some (.flst ws0)) : Abs K (upd H a (.lst l)) σ τ (updM M a (.lst ws0)) :=
  ⟨A.len,λ i w q => let ⟨v,q1,r⟩ := A.val i w q; ⟨v,q1,RepW.backL h r⟩,MAbs.backL h A.mem e⟩
end
theorem kp_backL {H H' : Hp} {a : Addr} {o : Obj} {l : List V} (e : H a = some (.lst l)) (kp' : Kp (upd H a (.frz o (.frz o (.lst l)))) H') : Kp H (upd H' a (.lst l)) := ⟨λ b xs z => by
    have hb : b ≠ a := λ y => by rw [y,e] at z; cases z
    rw [upd_ne hb]
    exact kp'.tup b xs (by rw [upd_ne hb]; exact z),λ b ob u z => by
    have hb : b ≠ a := λ y => by rw [y,e] at z; cases z
    rw [upd_ne hb]
    exact kp'.frz b ob u (by rw [upd_ne hb]; exact z)⟩
def dStillLS (t : TSd) (D : Ed) (τ : DS) (M : MH) : Prop := ∃ a ws,M a = some (.lst ws) /\ t
  { nx := λ τ' M' => M' a = some (.flst ws) /\ D.nx τ' (updM M' a (.lst ws)),rt := λ w M' => M' a = some (.flst ws) /\ D.rt w (updM M' a (.lst ws)),
    bk := λ τ' M' => M' a = some (.flst ws) /\ D.bk τ' (updM M' a (.lst ws)),ct := λ τ' M' => M' a = some (.flst ws) /\ D.ct τ' (updM M' a (.lst ws)) } τ (updM M a (.flst ws))
theorem psd_stillL0 {X : Cx} {st : Stmt} {t : TSd} (h : PSd X st t) : PSd X st (dStillLS t) := ps_w (ps_stillL h) λ D σ H hq94 => by
  obtain ⟨τ,M,Dd,A,⟨a,ws,hm,q⟩,k1,k2,k3,k4⟩ := hq94
  obtain ⟨l,e,pr⟩ := A.mem _ _ hm
  refine ⟨a,l,e,λ o => ?_⟩
  have kp : Kp H (upd H a (.frz o (.frz o (.lst l)))) := Kp.set e (λ _ z => nomatch z) (λ _ _ z => nomatch z)
  have m1 : MAbs X.K (upd H a (.frz o (.frz o (.lst l)))) (updM M a (.flst ws)) := A.mem.put (mo := .flst ws) kp ⟨o,l,upd_same,RepWs.keep kp pr⟩
  refine ⟨τ,_,_,A.go kp m1,q,?_,?_,?_,?_⟩
  · rintro σ' H' τ' M' kp' A' ⟨h1,q1⟩
    have e' := kp'.frz a o _ upd_same
    exact ⟨e',k1 _ _ _ _ (kp_backL e kp') (Abs.backL e' A' h1) q1⟩
  · rintro v H' w M' kp' r' m' ⟨h1,q1⟩
    have e' := kp'.frz a o _ upd_same
    exact ⟨e',k2 _ _ _ _ (kp_backL e kp') (RepW.backL e' r') (MAbs.backL e' m' h1) q1⟩
  · rintro σ' H' τ' M' kp' A' ⟨h1,q1⟩
    have e' := kp'.frz a o _ upd_same
    exact ⟨e',k3 _ _ _ _ (kp_backL e kp') (Abs.backL e' A' h1) q1⟩
  · rintro σ' H' τ' M' kp' A' ⟨h1,q1⟩
    have e' := kp'.frz a o _ upd_same
    exact ⟨e',k4 _ _ _ _ (kp_backL e kp') (Abs.backL e' A' h1) q1⟩
abbrev stillF (o : Obj) (l : List V) : HO := .frz o (.frz o (.lst l))
theorem stillF_at {P : Program} {w : World} {H : Hp} {h : Heap} {a : Addr} {o : Obj} {l : List V} (ok : HOk P w H h) (e : H a = some (stillF o l)) : ∃ its : List Value,Vals l its /\ h.IsList a its.toArray := by
  obtain ⟨ho,_,z,its,n,r,h1⟩ := ok a _ e
  exact ⟨its,r,⟨_,h1,rfl,n,rfl⟩⟩
def Itf (a : Addr) (o : Obj) (l : List V) : It :=
  ⟨λ i H => H a = some (stillF o l) /\ i < l.length,λ i H x H' => H' = H /\ l[i]? = some x,λ i H => H a = some (stillF o l) /\ l.length <= i⟩
theorem turn_flist {P : Program} {w : World} {K : PySem.W.Frag} {tg : Expr} (a it : Addr) (o : Obj) (l : List V) : Turn P w K tg (Itf a o l) [it] it (λ i h => h.IsListIter it a i) where
  mem := by simp
  obj := λ i h st b hb => by
    have e : b = it := by simpa using hb
    subst e
    obtain ⟨o,e,c,d⟩ := st
    exact ⟨o,e,λ v z => by rw [d] at z; cases z⟩
  keep := λ i h h' st k => st.at λ o e => k it (by simp) o e
  item := by
    intro X hP hw hK hc i pins s σ H E I hf st ⟨hg,hi⟩
    subst hP hw hK
    obtain ⟨its,rv,p⟩ := stillF_at I.hok hg
    obtain ⟨u,hu,ru⟩ := rv.get (List.getElem?_eq_getElem hi)
    obtain ⟨f0,f1,f2,f3,f4,f5⟩ := hf it (by simp)
    refine wpAny_pyNext_list_item st p (x := u) (by simpa using hu) λ h' st' sb => ?_
    have I1 : Inv X pins σ H { s with heap := h' } := I.turned (t' := s.toks) (λ b o hb e => (sb.2 b hb).trans e) f0 f1 f3 f4 f5
    obtain ⟨o,e,c,d⟩ := id st'
    exact ⟨u,rfl,go_of (s := { s with heap := h' }) e c d (by decide) ⟨_,H,I1,ru,⟨rfl,List.getElem?_eq_getElem hi⟩,st',λ b hb => (hf b hb).1⟩⟩
  done := by
    intro X hP hw hK hc i pins s σ H E I hf st ⟨hg,hi⟩
    subst hP hw hK
    obtain ⟨its,rv,p⟩ := stillF_at I.hok hg
    obtain ⟨f0,f1,f2,f3,f4,f5⟩ := hf it (by simp)
    have hl := rv.length
    exact wpAny_pyNext_list_end (I.ok.hd hc) st p (by simp; omega) λ h' eb => ⟨rfl,I.turned (t' := s.toks) (λ b o hb e => eb b o hb e) f0 f1 f3 f4 f5⟩
  self := λ _ _ _ _ _ st h => wpAny_pyIter_listiter st h
section
variable {X : Cx} {K : PySem.W.Frag} {tg o : Expr}
def iFlist (td : TE) : TI := λ σ H R => td σ H λ x H1 => ∃ a o l,x = .ref a /\ H1 a = some (stillF o l) /\ R (Itf a o l) H1
theorem pi_flist {td : TE} (ho : PE X o td) : PI X tg o (iFlist td) := by
  intro pins s σ H R I h
  refine thn (ho pins s σ H _ I h) λ v s1 hq95 => ?_
  obtain ⟨x,H1,I1,r1,a,ob,l,ex,hg,q⟩ := hq95
  subst ex
  cases r1
  obtain ⟨its,rv,p⟩ := stillF_at I1.hok hg
  refine wpAny_pyIter_list p ?_
  refine ⟨s1.heap.objs.size,[s1.heap.objs.size],_,_,H1,rfl,I1.kept (t' := s1.toks) λ b o e => Heap.get?_push_of_some _ e,turn_flist a _ ob l,⟨_,Heap.get?_push_size _ rfl,rfl,rfl⟩,λ b hb => ?_,q⟩
  have e : b = s1.heap.objs.size := by simpa using hb
  subst e
  exact I1.fpOk (Nat.le_refl _) (I1.hok.fresh (Nat.le_refl _))
def dItemsF (td : TD) (τ : DS) (M : MH) (R : List W -> MH -> Prop) : Prop := td τ M λ w M1 => ∃ a ws,w = .m a /\ M1 a = some (.flst ws) /\ R ws M1
theorem pid_itemsF0 {td : TD} (ho : PD X o td) : PId X tg o (dItemsF td) := pi_w (pi_flist ho) λ σ H R hq96 => by
  obtain ⟨τ,M,Rd,A,h,k⟩ := hq96
  refine ⟨τ,M,_,A,h,λ v H1 w M1 kp r m hq97 => ?_⟩
  obtain ⟨a,ws,ew,hm,q⟩ := hq97
  subst ew
  obtain ⟨ob,l,e,pr⟩ := m _ _ hm
  refine ⟨a,ob,l,r,e,k _ H1 _ M1 kp m (λ H2 kp2 i => ?_) q⟩
  have hl := pr.length
  have e2 := kp2.frz a ob _ e
  refine ⟨λ hi => ⟨e2,by omega⟩,λ hi => ⟨e2,by omega⟩,λ x H' hi hq98 => ?_⟩
  obtain ⟨eH,ex⟩ := hq98
  subst eH
  have hi2 : i < ws.length := hi
  obtain ⟨x',ex',rx⟩ := RepWs.get (RepWs.keep kp2 pr) (List.getElem?_eq_getElem hi2)
  rw [ex'] at ex
  cases ex
  exact ⟨Kp.refl _,λ M m => m,ws[i],List.getElem?_eq_getElem hi2,rx⟩
end
end D
set_option Elab.async false
set_option linter.all false
set_option maxRecDepth 100000
set_option maxHeartbeats 4000000
namespace D
open PySem PySem.Spec PyProof.Rows L2
section
variable {X : Cx} {o : Expr} {td : TD} {apos cpos : Pos}
end
namespace Q
section
variable {X : Cx} {pos : Pos}
theorem psd_stillL {st : Stmt} {t : TSd} (h : Jd (PSd X st t)) : Jd (PSd X st (dStillLS t)) := ⟨D.psd_stillL0 h.h⟩
theorem pid_itemsF {tg o : Expr} {td : TD} (ho : Jd (PD X o td)) : Jd (PId X tg o (dItemsF td)) := ⟨D.pid_itemsF0 ho.h⟩
end
end Q
end D
set_option Elab.async false
set_option linter.all false
set_option maxRecDepth 100000
set_option maxHeartbeats 4000000
namespace D
open PySem PySem.Spec PyProof.Rows L2
section
variable {X : Cx} {tg iter elt : Expr} {pos : Pos} {sc : Scope} {own : List Str} {fr : List Nat} {di : TId} {g : TGd} {tt : TTd} {te : TD} {ifs : List Expr}
end
namespace Q
section
variable {X : Cx} {tg iter elt : Expr} {pos : Pos} {sc : Scope} {own : List Str} {fr : List Nat} {di : TId} {g : TGd} {tt : TTd} {te : TD} {ifs : List Expr}
end
end Q
end D
namespace D
open PySem
theorem len_0 {us : List Value} (h : us.length = 0) : us = [] := by
  exact List.eq_nil_of_length_eq_zero h
theorem len_1 {us : List Value} (h : us.length = 1) : ∃ a1 : Value,us = [a1] := by
  cases us with
  | nil => simp at h
  | cons a r =>
    have e : r = [] := len_0 (by simpa using h)
    subst e
    exact ⟨a,rfl⟩
theorem len_2 {us : List Value} (h : us.length = 2) : ∃ a1 a2 : Value,us = [a1,a2] := by
  cases us with
  | nil => simp at h
  | cons a r =>
    obtain ⟨b1,e⟩ := len_1 (us := r) (by simpa using h)
    subst e
    exact ⟨a,b1,rfl⟩
theorem len_3 {us : List Value} (h : us.length = 3) : ∃ a1 a2 a3 : Value,us = [a1,a2,a3] := by
  cases us with
  | nil => simp at h
  | cons a r =>
    obtain ⟨b1,b2,e⟩ := len_2 (us := r) (by simpa using h)
    subst e
    exact ⟨a,b1,b2,rfl⟩
theorem len_4 {us : List Value} (h : us.length = 4) : ∃ a1 a2 a3 a4 : Value,us = [a1,a2,a3,a4] := by
  cases us with
  | nil => simp at h
  | cons a r =>
    obtain ⟨b1,b2,b3,e⟩ := len_3 (us := r) (by simpa using h)
    subst e
    exact ⟨a,b1,b2,b3,rfl⟩
end D
set_option Elab.async false
set_option linter.all false
set_option maxRecDepth 100000
set_option maxHeartbeats 4000000
namespace D
open PySem PySem.Spec PyProof.Rows L2
section
variable {X : Cx} {K : PySem.W.Frag}
variable {o e f : Expr} {td te tf : TD} {apos cpos : Pos}
end
namespace Q
end Q
end D
set_option Elab.async false
set_option linter.all false
set_option maxRecDepth 100000
set_option maxHeartbeats 4000000
namespace D
open PySem PySem.Spec PyProof.Rows L2
section
variable {X : Cx} {K : PySem.W.Frag}
end
section
variable {X : Cx} {K : PySem.W.Frag}
end
namespace Q
end Q
end D
set_option Elab.async false
set_option linter.all false
set_option maxRecDepth 100000
set_option maxHeartbeats 4000000
namespace D
open PySem PySem.Spec PyProof.Rows L2
section
variable {K : PySem.W.Frag}
variable {X : Cx} {sc : Scope} {own : List Str} {fr : List Nat} {di : TId} {g : TGd} {tt : TTd} {te : TD} {tg iter elt : Expr} {ifs : List Expr} {pos : Pos}
end
section
variable {X : Cx} {tg iter elt : Expr} {pos : Pos} {sc : Scope} {own : List Str} {fr : List Nat} {di : TId} {g : TGd} {tt : TTd} {te : TD} {ifs : List Expr}
end
namespace Q
section
variable {X : Cx} {tg iter elt : Expr} {pos : Pos} {sc : Scope} {own : List Str} {fr : List Nat} {di : TId} {g : TGd} {tt : TTd} {te : TD} {ifs : List Expr}
variable {o : Expr} {td : TD} {apos cpos kpos kp : Pos} {j : Nat}
end
end Q
end D
set_option Elab.async false
set_option linter.all false
set_option maxRecDepth 100000
set_option maxHeartbeats 4000000
namespace D
open PySem PySem.Spec PyProof.Rows L2
section
variable {X : Cx} {K : PySem.W.Frag}
end
section
variable {X : Cx} {K : PySem.W.Frag}
variable {o e : Expr} {td te : TD} {apos cpos : Pos}
end
namespace Q
section
variable {X : Cx} {o e tg : Expr} {td te : TD} {apos cpos : Pos}
end
end Q
end D
set_option Elab.async false
set_option linter.all false
set_option maxRecDepth 100000
set_option maxHeartbeats 4000000
namespace D
open PySem PySem.Spec PyProof.Rows L2
section
variable {X : Cx} {tg o : Expr}
def iNew (td : TE) : TI := λ σ H R => td σ H λ x H1 => ∃ a l,x = .ref a /\ H1 a = some (.lst l) /\ ∀ ob,R (Itf a ob l) (upd H1 a (stillF ob l))
theorem pi_new {td : TE} (ho : PE X o td) : PI X tg o (iNew td) := by
  intro pins s σ H R I h
  refine thn (ho pins s σ H _ I h) λ v s1 hq99 => ?_
  obtain ⟨x,H1,I0,r1,a,l,ex,hg0,q⟩ := hq99
  subst ex
  cases r1
  obtain ⟨ob,I1⟩ := Inv.stillL I0 hg0
  have hg : upd H1 a (stillF ob l) a = some (stillF ob l) := upd_same
  obtain ⟨its,rv,p⟩ := stillF_at I1.hok hg
  refine wpAny_pyIter_list p ?_
  refine ⟨s1.heap.objs.size,[s1.heap.objs.size],_,_,upd H1 a (stillF ob l),rfl,I1.kept (t' := s1.toks) λ b o e => Heap.get?_push_of_some _ e,turn_flist a _ ob l,⟨_,Heap.get?_push_size _ rfl,rfl,rfl⟩,λ b hb => ?_,q ob⟩
  have e : b = s1.heap.objs.size := by simpa using hb
  subst e
  exact I1.fpOk (Nat.le_refl _) (I1.hok.fresh (Nat.le_refl _))
def dItemsN (td : TD) (τ : DS) (M : MH) (R : List W -> MH -> Prop) : Prop := td τ M λ w M1 => ∃ a ws,w = .m a /\ M1 a = some (.lst ws) /\ R ws (updM M1 a (.flst ws))
theorem pid_itemsN0 {td : TD} (ho : PD X o td) : PId X tg o (dItemsN td) := pi_w (pi_new ho) λ σ H R hq100 => by
  obtain ⟨τ,M,Rd,A,h,k⟩ := hq100
  refine ⟨τ,M,_,A,h,λ v H1 w M1 kp r m hq101 => ?_⟩
  obtain ⟨a,ws,ew,hm,q⟩ := hq101
  subst ew
  obtain ⟨l,e,pr⟩ := m _ _ hm
  refine ⟨a,l,r,e,λ ob => ?_⟩
  have kp1 : Kp H1 (upd H1 a (stillF ob l)) := Kp.set e (λ _ z => nomatch z) (λ _ _ z => nomatch z)
  have pr1 : RepWs X.K (upd H1 a (stillF ob l)) ws l := RepWs.keep kp1 pr
  refine k _ _ _ (updM M1 a (.flst ws)) (kp.trans kp1) (m.put (mo := .flst ws) kp1 ⟨ob,l,upd_same,pr1⟩) (λ H2 kp2 i => ?_) q
  have hl := pr1.length
  have e2 := kp2.frz a ob _ upd_same
  refine ⟨λ hi => ⟨e2,by omega⟩,λ hi => ⟨e2,by omega⟩,λ x H' hi hq102 => ?_⟩
  obtain ⟨eH,ex⟩ := hq102
  subst eH
  have hi2 : i < ws.length := hi
  obtain ⟨x',ex',rx⟩ := RepWs.get (RepWs.keep kp2 pr1) (List.getElem?_eq_getElem hi2)
  rw [ex'] at ex
  cases ex
  exact ⟨Kp.refl _,λ M m => m,ws[i],List.getElem?_eq_getElem hi2,rx⟩
end
section
variable {X : Cx}
def dSlW (te : TD) (tl th : TOd) (τ : DS) (M : MH) (Q : QD) : Prop := te τ M λ w M1 => tl τ M1 λ lo M2 => th τ M2 λ hi M3 => ∃ a ws,w = .m a /\ M3 a = some (.lst ws) /\ ∀ p,M3 p = none -> Q (.m p) (updM M3 p (.lst (cutD ws lo hi)))
theorem RepWs.cut {K : PySem.W.Frag} {H : Hp} {ws : List W} {vs : List V} (r : RepWs K H ws vs) (lo hi : Option Int) : RepWs K H (cutD ws lo hi) (cutV vs lo hi) := by
  unfold cutD cutV
  have hl := r.length
  rw [hl]
  have dr : ∀ (n : Nat) {ws : List W} {vs : List V},RepWs K H ws vs -> RepWs K H (ws.drop n) (vs.drop n) := by
    intro n
    induction n with
    | zero => intro ws vs h; exact h
    | succ n ih =>
      intro ws vs h
      cases h with
      | nil => exact .nil
      | cons a b => exact ih b
  have tk : ∀ (n : Nat) {ws : List W} {vs : List V},RepWs K H ws vs -> RepWs K H (ws.take n) (vs.take n) := by
    intro n
    induction n with
    | zero => intro ws vs h; exact .nil
    | succ n ih =>
      intro ws vs h
      cases h with
      | nil => exact .nil
      | cons a b => exact .cons a (ih b)
  exact tk _ (dr _ r)
theorem pd_sliceW0 {e : Expr} {te : TD} {lo hi : Option Expr} {tl th : TOd} {pos p2 : Pos} (he : PD X e te) (hl : POd X lo tl) (hu : POd X hi th) : PD X (.Subscript e (.Slice lo hi none p2) pos) (dSlW te tl th) :=
  pe_w (pe_slice sl_list he hl hu) λ σ H Q h => by
    obtain ⟨τ,M,Qd,A,h,k⟩ := h
    refine ⟨τ,M,_,A,h,λ x H1 w M1 kp1 r1 m1 q1 => ⟨τ,M1,_,A.go kp1 m1,q1,λ lo' H2 M2 kp2 m2 q2 => ⟨τ,M2,_,A.go (kp1.trans kp2) m2,q2,λ hi' H3 M3 kp3 m3 hq103 => ?_⟩⟩⟩
    obtain ⟨a,ws,ew,hm,q3⟩ := hq103
    subst ew
    obtain ⟨vs,e,ra⟩ := m3 _ _ hm
    refine ⟨a,vs,r1,.of e,λ p hp => ?_⟩
    have kp4 : Kp H3 (upd H3 p (.lst (cutV vs lo' hi'))) := Kp.new hp
    exact k _ _ (.m p) _ (((kp1.trans kp2).trans kp3).trans kp4) rfl (m3.put (mo := .lst (cutD ws lo' hi')) kp4 ⟨_,upd_same,RepWs.keep kp4 (RepWs.cut ra lo' hi')⟩) (q3 p (m3.free hp))
end
section
variable {X : Cx} {pos : Pos}
def tPar3 (i j l : Nat) (ta : TA) : TS := λ D σ H => ta σ H λ vs H1 => ∃ v w u,vs = [v,w,u] /\ D.nx (((σ.set l (some u)).set j (some w)).set i (some v)) H1
theorem ps_par3 {i j l : Nat} {x y z : Str} {a b c : Expr} {ta : TA} {px py pz pt : Pos} {kt k2 pt2} (hc : X.calm = true) (hN : X.N.Nodup) (hi : X.N[i]? = some x) (hj : X.N[j]? = some y) (hl : X.N[l]? = some z)
    (hx : X.env.scope.names.lookup x = some .local) (hy : X.env.scope.names.lookup y = some .local) (hz : X.env.scope.names.lookup z = some .local) (ha : PA X [a,b,c] ta)
    (hw : swappedStores [.Tuple [.Name x px,.Name y py,.Name z pz] kt pt] (.Tuple [a,b,c] k2 pt2) X.env = pure (some [x,y,z]))
    (hs : swapsWithSole [.Tuple [.Name x px,.Name y py,.Name z pz] kt pt] (.Tuple [a,b,c] k2 pt2) pos.line X.env = pure false := by rfl) :
    PS X (.Assign [.Tuple [.Name x px,.Name y py,.Name z pz] kt pt] (.Tuple [a,b,c] k2 pt2) pos) (tPar3 i j l ta) := by
  intro pins s σ H D I h
  rw [exec_Assign_arm]
  refine wpAny_bind (wpAny_standAt ?_)
  rw [hs]
  refine wpAny_bind (wpAny_pure ?_)
  rw [if_neg (by decide)]
  refine wpAny_bind (Tuple_ (thn (ha _ pins s σ H _ I h) λ us s1 hq104 => ?_))
  obtain ⟨vs,H1,I1,r1,q1⟩ := hq104
  obtain ⟨v,w,u,e1,q1⟩ := q1
  subst e1
  obtain ⟨u1,u2,u3,rfl,rv,rw',ru⟩ : ∃ u1 u2 u3,us = [u1,u2,u3] /\ RelV v u1 /\ RelV w u2 /\ RelV u u3 := by
    cases r1 with
    | cons p q =>
      cases q with
      | cons p' q' =>
        cases q' with
        | cons p'' q'' =>
          cases q''
          exact ⟨_,_,_,rfl,p,p',p''⟩
  refine wpAny_newObj_type ?_ (by show 3 <= sizeLine; decide)
  have I2 : Inv X pins σ H1 { s1 with heap := s1.heap.push { cls := .type "tuple",data := .seq [u1,u2,u3].toArray } } := I1.kept (t' := s1.toks) λ b o e => Heap.get?_push_of_some _ e
  rw [hw]
  refine wpAny_bind (wpAny_pure ?_)
  show wpAny (model X.prog X.w) X.A (do rule "assign.swapped-stores"; let items <- unpackItems (.ref s1.heap.objs.size) 3 none; assignInOrder [λ v => bindName X.env z v,λ v => bindName X.env y v,λ v => bindName X.env x v] items.reverse; pure Flow.next) _ _ _
  refine wpAny_bind (wpAny_rule (wpAny_bind (unpackItems_tuple (items := #[u1,u2,u3]) (I.ok.hd hc) (IsTup.new s1.heap _) λ h' hx' => ?_)))
  have I3 := I2.kept (h' := h') (t' := s1.toks) λ b o e => hx' b o (Nat.ne_of_lt (Heap.lt_size e)) e
  show wpAny _ _ (assignInOrder [λ v => bindName X.env z v,λ v => bindName X.env y v,λ v => bindName X.env x v] [u3,u2,u1] >>= λ _ => pure Flow.next) _ _ _
  refine wpAny_bind (assignInOrder_cons (wpAny_bindName (store_ok I3 hN hl (.inl hz) ru (λ s2 I4 => ?_) (.inr hz))))
  refine assignInOrder_cons (wpAny_bindName (store_ok I4 hN hj (.inl hy) rw' (λ s3 I5 => ?_) (.inr hy)))
  refine assignInOrder_cons (wpAny_bindName (store_ok I5 hN hi (.inl hx) rv (λ s4 I6 => assignInOrder_nil (wpAny_pure ?_)) (.inr hx)))
  exact ⟨_,H1,I6,q1⟩
def dPar3 (i j l : Nat) (t : TAd) (D : Ed) (τ : DS) (M : MH) : Prop := t τ M λ ws M1 => ∃ v w u,ws = [v,w,u] /\ D.nx (((τ.set l (some u)).set j (some w)).set i (some v)) M1
theorem psd_par30 {i j l : Nat} {x y z : Str} {a b c : Expr} {t : TAd} {px py pz pt : Pos} {kt k2 pt2} (hc : X.calm = true) (hN : X.N.Nodup) (hi : X.N[i]? = some x) (hj : X.N[j]? = some y) (hl : X.N[l]? = some z)
    (hx : X.env.scope.names.lookup x = some .local) (hy : X.env.scope.names.lookup y = some .local) (hz : X.env.scope.names.lookup z = some .local) (ha : PAd X [a,b,c] t)
    (hw : swappedStores [.Tuple [.Name x px,.Name y py,.Name z pz] kt pt] (.Tuple [a,b,c] k2 pt2) X.env = pure (some [x,y,z]) := by rfl)
    (hs : swapsWithSole [.Tuple [.Name x px,.Name y py,.Name z pz] kt pt] (.Tuple [a,b,c] k2 pt2) pos.line X.env = pure false := by rfl) :
    PSd X (.Assign [.Tuple [.Name x px,.Name y py,.Name z pz] kt pt] (.Tuple [a,b,c] k2 pt2) pos) (dPar3 i j l t) := ps_w (ps_par3 hc hN hi hj hl hx hy hz ha hw hs) λ D σ H h => by
  obtain ⟨τ,M,Dd,A,h,k1,_⟩ := h
  refine ⟨τ,M,_,A,h,λ vs H1 ws M1 kp1 r1 m1 hq105 => ?_⟩
  obtain ⟨v,w,u,ew,q⟩ := hq105
  subst ew
  cases r1 with
  | cons r1 r2 =>
    cases r2 with
    | cons r3 r4 =>
      cases r4 with
      | cons r5 r6 =>
        cases r6
        exact ⟨_,_,_,rfl,k1 _ H1 _ M1 kp1 ((((A.go kp1 m1).set l r5).set j r3).set i r1) q⟩
end
namespace Q
section
variable {X : Cx} {tg o : Expr} {td : TD}
theorem psd_par3 {pos : Pos} {i j l : Nat} {x y z : Str} {a b c : Expr} {t : TAd} {px py pz pt : Pos} {kt k2 pt2} (hc : X.calm = true) (hN : X.N.Nodup) (hi : X.N[i]? = some x) (hj : X.N[j]? = some y) (hl : X.N[l]? = some z)
    (hx : X.env.scope.names.lookup x = some .local) (hy : X.env.scope.names.lookup y = some .local) (hz : X.env.scope.names.lookup z = some .local) (ha : Jd (PAd X [a,b,c] t))
    (hw : swappedStores [.Tuple [.Name x px,.Name y py,.Name z pz] kt pt] (.Tuple [a,b,c] k2 pt2) X.env = pure (some [x,y,z]) := by rfl)
    (hs : swapsWithSole [.Tuple [.Name x px,.Name y py,.Name z pz] kt pt] (.Tuple [a,b,c] k2 pt2) pos.line X.env = pure false := by rfl) :
    Jd (PSd X (.Assign [.Tuple [.Name x px,.Name y py,.Name z pz] kt pt] (.Tuple [a,b,c] k2 pt2) pos) (dPar3 i j l t)) := ⟨D.psd_par30 hc hN hi hj hl hx hy hz ha.h hw hs⟩
theorem pd_sliceW {e : Expr} {te : TD} {lo hi : Option Expr} {tl th : TOd} {pos p2 : Pos} (he : Jd (PD X e te)) (hl : Jd (POd X lo tl)) (hu : Jd (POd X hi th)) : Jd (PD X (.Subscript e (.Slice lo hi none p2) pos) (dSlW te tl th)) := ⟨D.pd_sliceW0 he.h hl.h hu.h⟩
theorem pid_itemsN (ho : Jd (PD X o td)) : Jd (PId X tg o (dItemsN td)) := ⟨D.pid_itemsN0 ho.h⟩
end
end Q
end D
set_option Elab.async false
set_option linter.all false
set_option maxRecDepth 100000
set_option maxHeartbeats 4000000
namespace K47
open PySem PySem.Spec PyProof.Rows L2 D Rc Stc
abbrev C_Machine : Addr := 163
abbrev N_Machine_init : List Str := ["self", "name", "berths"]
def t_Machine_init : TSd :=
    dSeq (dFldPut C_Machine (dVar 0) (dVar 1) "name") <|
    dSeq (dFldPut C_Machine (dVar 0) (dVar 2) "berth_count") <|
    dSeq (dFldPut C_Machine (dVar 0) (dC (.d (.bool false))) "standing") <|
    dSeq (dFldPut C_Machine (dVar 0) (dC (.d (.int 0))) "lives") <|
    dSeq (dFldPut C_Machine (dVar 0) (dC (.d (.int 0))) "sheet_turn") <|
    dSeq (dFldPut C_Machine (dVar 0) (dNewDic) "laid") <|
    dFldPut C_Machine (dVar 0) (dLst (dNil)) "known_leases"


abbrev N_l_copy_row : List Str := ["_law_bag_here", "_law_number", "_law_kind", "_law_wish"]
def t_l_copy_row (sp_l_take : SpD) : TSd :=
    dSeq (dAsg (dOp rdIx (dLst (dCons (dC (.d (.str "front"))) (dCons (dC (.d (.str "back"))) (dCons (dC (.d (.str "side"))) (dCons (dC (.d (.str "zzzzzzzz"))) (dCons (dC (.d (.str "x"))) (dCons (dC (.d (.str "kind"))) (dNil)))))))) (dOp rdMod (dVar 1) (dC (.d (.int 6))))) (gN 2)) <|
    dSeq (dAsg (dOp rdIx (dLst (dCons (dC (.d (.str "web"))) (dCons (dC (.d (.str "db"))) (dCons (dC (.d (.str "web"))) (dCons (dC (.d (.str "a"))) (dNil)))))) (dOp rdMod (dVar 1) (dC (.d (.int 4))))) (gN 3)) <|
    dRet (dTup (dCons (dVar 1) (dCons (dVar 3) (dCons (dVar 2) (dCons (dOp rdAdd (dC (.d (.int 1))) (dCall sp_l_take (dCons (dVar 0) (dCons (dC (.d (.int 3))) (dNil))))) (dCons (dCall sp_l_take (dCons (dVar 0) (dCons (dC (.d (.int 3))) (dNil)))) (dCons (dOp rdAdd (dC (.d (.int 1))) (dCall sp_l_take (dCons (dVar 0) (dCons (dC (.d (.int 3))) (dNil))))) (dNil))))))))


abbrev N_l_sheet : List Str := ["_law_bag_here", "_law_life", "_law_turn", "_law_most", "_law_numbers", "_law_rows", "_law_some", "_law_leases", "_law_k", "_law_number"]
def t_l_sheet (sp_l_take sp_l_copy_row : SpD) : TSd :=
    dSeq (dAsg (dLC (dRng2 (dCons (dC (.d (.int 1))) (dCons (dC (.d (.int 7))) (dNil)))) (gN 0) (dTest (dOp rdEqT (dCall sp_l_take (dCons (dVar 1) (dCons (dC (.d (.int 2))) (dNil)))) (dC (.d (.int 0))))) (dOp rdAdd (dVar 0) (dOp rdMul (dC (.d (.int 6))) (dCall sp_l_take (dCons (dVar 1) (dCons (dC (.d (.int 2))) (dNil)))))) 1 [0]) (gN 4)) <|
    dSeq (dAsg (dLC (dItems (dSl (dSeal (dCB rdSortI (dCons (dVar 4) (dNil)))) (dNoPart) (dPart (dVar 3)))) (gN 0) (dYes) (dCall sp_l_copy_row (dCons (dVar 1) (dCons (dVar 0) (dNil)))) 1 [0]) (gN 5)) <|
    dSeq (dAsg (dSl (dCat (dLC (dItems (dVar 5)) (gN 0) (dYes) (dOp rdIx (dVar 0) (dC (.d (.int 0)))) 1 []) (dLst (dCons (dC (.d (.int 20))) (dNil)))) (dNoPart) (dPart (dC (.d (.int 3))))) (gN 6)) <|
    dSeq (dAsg (dLstM (dNil)) (gN 7)) <|
    dSeq (dFor (dRng1 (dCons (dCall sp_l_take (dCons (dVar 0) (dCons (dC (.d (.int 5))) (dNil)))) (dNil))) (gN 8)
      (dSeq (dAsg (dOp rdIx (dVar 6) (dCall sp_l_take (dCons (dVar 0) (dCons (dCB rdLen (dCons (dVar 6) (dNil))) (dNil))))) (gN 9)) <|
      dDrop (dAppend (dVar 7) (dTup (dCons (dOp rdIx (dLst (dCons (dC (.d (.str "s"))) (dCons (dC (.d (.str "t"))) (dCons (dC (.d (.str "log"))) (dCons (dC (.d (.str "u"))) (dNil)))))) (dVar 8)) (dCons (dOp rdAdd (dC (.d (.int 1))) (dCall sp_l_take (dCons (dVar 0) (dCons (dC (.d (.int 9))) (dNil))))) (dCons (dVar 9) (dCons (dOp rdAdd (dVar 2) (dCall sp_l_take (dCons (dVar 0) (dCons (dC (.d (.int 9))) (dNil))))) (dNil))))))))) <|
    dRet (dTup (dCons (dVar 1) (dCons (dVar 2) (dCons (dVar 5) (dCons (dSeal (dCB rdSortP (dCons (dVar 7) (dNil)))) (dNil))))))


abbrev N_l_drawn : List Str := ["_law_bag_here", "_law_turn", "_law_life", "_law_way", "_law_here"]
def t_l_drawn (sp_l_take sp_l_sheet : SpD) : TSd :=
    dSeq (dAsg (dOp rdIx (dLst (dCons (dC (.d (.int 0))) (dCons (dC (.d (.int 0))) (dCons (dC (.d (.int 1))) (dCons (dC (.d (.int 2))) (dCons (dC (.d (.int 2))) (dCons (dC (.d (.int 4))) (dCons (dC (.d (.int 4))) (dCons (dC (.d (.int 4))) (dCons (dC (.d (.int 3))) (dCons (dC (.d (.int 3))) (dCons (dC (.d (.int 3))) (dCons (dC (.d (.int 3))) (dNil)))))))))))))) (dCall sp_l_take (dCons (dVar 0) (dCons (dC (.d (.int 12))) (dNil))))) (gN 3)) <|
    dSeq (dIf (dAnd (dTest (dOp rdEqT (dVar 3) (dC (.d (.int 1))))) (dTest (dOp rdGt (dCall sp_l_take (dCons (dVar 0) (dCons (dC (.d (.int 3))) (dNil)))) (dC (.d (.int 0))))))
      (dAsg (dC (.d (.int 4))) (gN 3))
      (dNext)) <|
    dSeq (dIf (dTest (dOp rdEqT (dVar 3) (dC (.d (.int 2)))))
      (dRet (dTup (dCons (dC (.d (.int 2))) (dCons (dOp rdAdd (dC (.d (.int 1))) (dCall sp_l_take (dCons (dVar 0) (dCons (dC (.d (.int 12))) (dNil))))) (dNil)))))
      (dNext)) <|
    dSeq (dIf (dTest (dOp rdEqT (dVar 3) (dC (.d (.int 3)))))
      (dSeq (dAsg (dCB rdMax2 (dCons (dC (.d (.int 1))) (dCons (dOp rdAdd (dVar 2) (dOp rdIx (dLst (dCons (dC (.d (.int 0))) (dCons (dC (.d (.int 0))) (dCons (dC (.d (.int 0))) (dCons (dC (.d (.int 0))) (dCons (dUn rdNeg (dC (.d (.int 1)))) (dCons (dC (.d (.int 1))) (dNil)))))))) (dCall sp_l_take (dCons (dVar 0) (dCons (dC (.d (.int 6))) (dNil)))))) (dNil)))) (gN 4)) <|
      dRet (dTup (dCons (dC (.d (.int 3))) (dCons (dCall sp_l_sheet (dCons (dVar 0) (dCons (dVar 4) (dCons (dCB rdMax2 (dCons (dC (.d (.int 1))) (dCons (dOp rdSub (dVar 1) (dOp rdIx (dLst (dCons (dC (.d (.int 0))) (dCons (dC (.d (.int 0))) (dCons (dC (.d (.int 0))) (dCons (dC (.d (.int 1))) (dCons (dC (.d (.int 4))) (dNil))))))) (dCall sp_l_take (dCons (dVar 0) (dCons (dC (.d (.int 5))) (dNil)))))) (dNil)))) (dCons (dC (.d (.int 6))) (dNil)))))) (dNil)))))
      (dNext)) <|
    dRet (dTup (dCons (dVar 3) (dCons (dC (.d .none)) (dNil))))


abbrev N_Machine_rise : List Str := ["self"]
def t_Machine_rise : TSd :=
    dSeq (dIf (dTest (dFld C_Machine (dVar 0) "standing"))
      (dRet (dC (.d (.bool false))))
      (dNext)) <|
    dSeq (dFldPut C_Machine (dVar 0) (dC (.d (.bool true))) "standing") <|
    dSeq (dFldAug C_Machine (dVar 0) (dC (.d (.int 1))) "lives" (λ i j => i + j)) <|
    dSeq (dFldPut C_Machine (dVar 0) (dC (.d (.int 0))) "sheet_turn") <|
    dRet (dC (.d (.bool true)))


abbrev N_Machine_fall : List Str := ["self"]
def t_Machine_fall : TSd :=
    dSeq (dIf (dNot (dTest (dFld C_Machine (dVar 0) "standing")))
      (dRet (dC (.d (.bool false))))
      (dNext)) <|
    dSeq (dFldPut C_Machine (dVar 0) (dC (.d (.bool false))) "standing") <|
    dSeq (dFldPut C_Machine (dVar 0) (dNewDic) "laid") <|
    dSeq (dFldPut C_Machine (dVar 0) (dLst (dNil)) "known_leases") <|
    dRet (dC (.d (.bool true)))


abbrev N_is_answering : List Str := ["copy", "row", "state", "left"]
def t_is_answering : TSd :=
    dSeq (dAsg (dVar 0) (gT 3 (gsCons (gN 1) (gsCons (gN 2) (gsCons (gN 3) (gsNil)))))) <|
    dRet (dOp rdEqT (dVar 2) (dC (.d (.str "answering"))))


abbrev N_Machine_answers : List Str := ["self", "number"]
def t_Machine_answers (sp_is_answering : SpD) : TSd :=
    dRet (dAndV (dDIn (dVar 1) (dFld C_Machine (dVar 0) "laid")) (dCall sp_is_answering (dCons (dDGet (dFld C_Machine (dVar 0) "laid") (dVar 1)) (dNil))))


abbrev N_failed : List Str := ["copy", "row", "state", "left"]
def t_failed : TSd :=
    dSeq (dAsg (dVar 0) (gT 3 (gsCons (gN 1) (gsCons (gN 2) (gsCons (gN 3) (gsNil)))))) <|
    dRet (dTup (dCons (dVar 1) (dCons (dC (.d (.str "failed"))) (dCons (dC (.d (.int 0))) (dNil)))))


abbrev N_Machine_fail : List Str := ["self", "number"]
def t_Machine_fail (sp_Machine_answers sp_failed : SpD) : TSd :=
    dSeq (dIf (dNot (dTest (dMeth C_Machine "answers" sp_Machine_answers (dVar 0) (dCons (dVar 1) (dNil)))))
      (dRet (dC (.d (.bool false))))
      (dNext)) <|
    dSeq (dDPut (dFld C_Machine (dVar 0) "laid") (dVar 1) (dCall sp_failed (dCons (dDGet (dFld C_Machine (dVar 0) "laid") (dVar 1)) (dNil)))) <|
    dRet (dC (.d (.bool true)))


abbrev N_new_copy : List Str := ["row", "number", "wish", "kind", "edition", "start", "hands"]
def t_new_copy : TSd :=
    dSeq (dAsg (dVar 0) (gT 6 (gsCons (gN 1) (gsCons (gN 2) (gsCons (gN 3) (gsCons (gN 4) (gsCons (gN 5) (gsCons (gN 6) (gsNil))))))))) <|
    dRet (dTup (dCons (dVar 0) (dCons (dC (.d (.str "starting"))) (dCons (dVar 5) (dNil)))))


abbrev N_Machine_take : List Str := ["self", "sheet", "life", "turn", "rows", "leases"]
def t_Machine_take (sp_new_copy : SpD) : TSd :=
    dSeq (dAsg (dVar 1) (gT 4 (gsCons (gN 2) (gsCons (gN 3) (gsCons (gN 4) (gsCons (gN 5) (gsNil))))))) <|
    dSeq (dIf (dOr (dNot (dTest (dFld C_Machine (dVar 0) "standing"))) (dOr (dTest (dOp rdNeT (dVar 2) (dFld C_Machine (dVar 0) "lives"))) (dTest (dOp rdLe (dVar 3) (dFld C_Machine (dVar 0) "sheet_turn")))))
      (dRet (dC (.d (.bool false))))
      (dNext)) <|
    dSeq (dFldPut C_Machine (dVar 0) (dVar 3) "sheet_turn") <|
    dSeq (dFldPut C_Machine (dVar 0) (dDC (dItems (dVar 4)) (gN 0) (dYes) (dOp rdIx (dVar 0) (dC (.d (.int 0)))) (dGet2 (dFld C_Machine (dVar 1) "laid") (dOp rdIx (dVar 0) (dC (.d (.int 0)))) (dCall sp_new_copy (dCons (dVar 0) (dNil)))) 1 [0]) "laid") <|
    dSeq (dFldPut C_Machine (dVar 0) (dSeal (dCB rdListOf (dCons (dVar 5) (dNil)))) "known_leases") <|
    dRet (dC (.d (.bool true)))


abbrev N_gone_on : List Str := ["copy", "row", "state", "left"]
def t_gone_on (sp_new_copy : SpD) : TSd :=
    dSeq (dAsg (dVar 0) (gT 3 (gsCons (gN 1) (gsCons (gN 2) (gsCons (gN 3) (gsNil)))))) <|
    dSeq (dIf (dTest (dOp rdEqT (dVar 2) (dC (.d (.str "failed")))))
      (dRet (dCall sp_new_copy (dCons (dVar 1) (dNil))))
      (dNext)) <|
    dSeq (dIf (dAnd (dTest (dOp rdEqT (dVar 2) (dC (.d (.str "starting"))))) (dTest (dOp rdGt (dVar 3) (dC (.d (.int 0))))))
      (dRet (dTup (dCons (dVar 1) (dCons (dC (.d (.str "starting"))) (dCons (dOp rdSub (dVar 3) (dC (.d (.int 1)))) (dNil))))))
      (dNext)) <|
    dRet (dTup (dCons (dVar 1) (dCons (dC (.d (.str "answering"))) (dCons (dC (.d (.int 0))) (dNil)))))


abbrev N_Machine_go_on : List Str := ["self"]
def t_Machine_go_on (sp_gone_on : SpD) : TSd :=
    dFldPut C_Machine (dVar 0) (dStill (dDC (dDItems (dFld C_Machine (dVar 0) "laid")) (gT 2 (gsCons (gN 0) (gsCons (gN 1) (gsNil)))) (dYes) (dVar 0) (dCall sp_gone_on (dCons (dVar 1) (dNil))) 2 [])) "laid"


abbrev N_l_done : List Str := ["_law_machine", "_law_way", "_law_thing"]
def t_l_done (sp_Machine_rise sp_Machine_fall sp_Machine_fail sp_Machine_take sp_Machine_go_on : SpD) : TSd :=
    dSeq (dIf (dTest (dOp rdEqT (dVar 1) (dC (.d (.int 0)))))
      (dRet (dMeth C_Machine "rise" sp_Machine_rise (dVar 0) dNil))
      (dNext)) <|
    dSeq (dIf (dTest (dOp rdEqT (dVar 1) (dC (.d (.int 1)))))
      (dRet (dMeth C_Machine "fall" sp_Machine_fall (dVar 0) dNil))
      (dNext)) <|
    dSeq (dIf (dTest (dOp rdEqT (dVar 1) (dC (.d (.int 2)))))
      (dRet (dMeth C_Machine "fail" sp_Machine_fail (dVar 0) (dCons (dVar 2) (dNil))))
      (dNext)) <|
    dSeq (dIf (dTest (dOp rdEqT (dVar 1) (dC (.d (.int 3)))))
      (dRet (dMeth C_Machine "take" sp_Machine_take (dVar 0) (dCons (dTup (dCons (dOp rdIx (dVar 2) (dC (.d (.int 0)))) (dCons (dOp rdIx (dVar 2) (dC (.d (.int 1)))) (dCons (dSeal (dCB rdListOf (dCons (dOp rdIx (dVar 2) (dC (.d (.int 2)))) (dNil)))) (dCons (dSeal (dCB rdListOf (dCons (dOp rdIx (dVar 2) (dC (.d (.int 3)))) (dNil)))) (dNil)))))) (dNil))))
      (dNext)) <|
    dRet (dMeth C_Machine "go_on" sp_Machine_go_on (dVar 0) dNil)


abbrev N_Machine_copied : List Str := ["self", "twin"]
def t_Machine_copied (sp_Machine_init : SpD) : TSd :=
    dSeq (dAsg (dMake C_Machine sp_Machine_init (dCons (dFld C_Machine (dVar 0) "name") (dCons (dFld C_Machine (dVar 0) "berth_count") (dNil)))) (gN 1)) <|
    dSeq (dFldPut C_Machine (dVar 1) (dFld C_Machine (dVar 0) "standing") "standing") <|
    dSeq (dFldPut C_Machine (dVar 1) (dFld C_Machine (dVar 0) "lives") "lives") <|
    dSeq (dFldPut C_Machine (dVar 1) (dFld C_Machine (dVar 0) "sheet_turn") "sheet_turn") <|
    dSeq (dFldPut C_Machine (dVar 1) (dCB rdDictOf (dCons (dFld C_Machine (dVar 0) "laid") (dNil))) "laid") <|
    dSeq (dFldPut C_Machine (dVar 1) (dSeal (dCB rdListOf (dCons (dFld C_Machine (dVar 0) "known_leases") (dNil)))) "known_leases") <|
    dRet (dVar 1)


abbrev N_Machine_lease_at : List Str := ["self", "store", "turn", "leased", "token", "number", "until"]
def t_Machine_lease_at (sp_Machine_answers : SpD) : TSd :=
    dSeq (dFor (dItems (dFld C_Machine (dVar 0) "known_leases")) (gT 4 (gsCons (gN 3) (gsCons (gN 4) (gsCons (gN 5) (gsCons (gN 6) (gsNil))))))
      (dIf (dAnd (dTest (dOp rdEqT (dVar 3) (dVar 1))) (dAnd (dTest (dOp rdGt (dVar 6) (dVar 2))) (dTest (dMeth C_Machine "answers" sp_Machine_answers (dVar 0) (dCons (dVar 5) (dNil))))))
        (dRet (dTup (dCons (dVar 5) (dCons (dVar 4) (dNil)))))
        (dNext))) <|
    dRet (dC (.d .none))


abbrev N_Machine_called : List Str := ["self"]
def t_Machine_called : TSd :=
    dRet (dFld C_Machine (dVar 0) "name")


abbrev N_Machine_berths : List Str := ["self"]
def t_Machine_berths : TSd :=
    dRet (dFld C_Machine (dVar 0) "berth_count")


abbrev N_Machine_life : List Str := ["self"]
def t_Machine_life : TSd :=
    dRet (dFld C_Machine (dVar 0) "lives")


abbrev N_Machine_stands : List Str := ["self"]
def t_Machine_stands : TSd :=
    dRet (dFld C_Machine (dVar 0) "standing")


abbrev N_told_copy : List Str := ["copy", "number", "wish", "kind", "edition", "start", "hands", "state", "left"]
def t_told_copy : TSd :=
    dSeq (dAsg (dVar 0) (gT 3 (gsCons (gT 6 (gsCons (gN 1) (gsCons (gN 2) (gsCons (gN 3) (gsCons (gN 4) (gsCons (gN 5) (gsCons (gN 6) (gsNil)))))))) (gsCons (gN 7) (gsCons (gN 8) (gsNil)))))) <|
    dRet (dTup (dCons (dVar 1) (dCons (dVar 2) (dCons (dVar 3) (dCons (dVar 4) (dCons (dVar 7) (dNil)))))))


abbrev N_Machine_lying : List Str := ["self"]
def t_Machine_lying (sp_told_copy : SpD) : TSd :=
    dRet (dStill (dLC (dDVals (dFld C_Machine (dVar 0) "laid")) (gN 0) (dYes) (dCall sp_told_copy (dCons (dVar 0) (dNil))) 1 []))


abbrev N_Machine_leases : List Str := ["self"]
def t_Machine_leases : TSd :=
    dRet (dSeal (dCB rdListOf (dCons (dFld C_Machine (dVar 0) "known_leases") (dNil))))


abbrev N_Machine_beat : List Str := ["self", "turn", "rows"]
def t_Machine_beat (sp_is_answering : SpD) : TSd :=
    dSeq (dIf (dNot (dTest (dFld C_Machine (dVar 0) "standing")))
      (dRet (dC (.d .none)))
      (dNext)) <|
    dSeq (dStillS (dAsg (dLC (dDItems (dFld C_Machine (dVar 0) "laid")) (gT 2 (gsCons (gN 0) (gsCons (gN 1) (gsNil)))) (dYes) (dTup (dCons (dVar 0) (dCons (dCall sp_is_answering (dCons (dVar 1) (dNil))) (dNil)))) 2 []) (gN 2))) <|
    dRet (dTup (dCons (dFld C_Machine (dVar 0) "name") (dCons (dFld C_Machine (dVar 0) "lives") (dCons (dVar 1) (dCons (dFld C_Machine (dVar 0) "sheet_turn") (dCons (dVar 2) (dNil)))))))


abbrev N_l_seen : List Str := ["_law_machine", "_law_turn", "_law_leases", "_law_told"]
def t_l_seen (sp_Machine_lease_at sp_Machine_called sp_Machine_berths sp_Machine_life sp_Machine_stands sp_Machine_lying sp_Machine_leases sp_Machine_beat : SpD) : TSd :=
    dSeq (dAsg (dLC (dItems (dLst (dCons (dC (.d (.str "s"))) (dCons (dC (.d (.str "t"))) (dCons (dC (.d (.str "log"))) (dCons (dC (.d (.str "u"))) (dNil))))))) (gN 0) (dYes) (dMeth C_Machine "lease_at" sp_Machine_lease_at (dVar 1) (dCons (dVar 0) (dCons (dVar 2) (dNil)))) 1 [0,1]) (gN 2)) <|
    dSeq (dAsg (dLst (dCons (dMeth C_Machine "called" sp_Machine_called (dVar 0) dNil) (dCons (dMeth C_Machine "berths" sp_Machine_berths (dVar 0) dNil) (dCons (dMeth C_Machine "life" sp_Machine_life (dVar 0) dNil) (dCons (dMeth C_Machine "stands" sp_Machine_stands (dVar 0) dNil) (dCons (dMeth C_Machine "lying" sp_Machine_lying (dVar 0) dNil) (dCons (dMeth C_Machine "leases" sp_Machine_leases (dVar 0) dNil) (dNil)))))))) (gN 3)) <|
    dRet (dCB rdReprT (dCons (dCat (dVar 3) (dLst (dCons (dMeth C_Machine "beat" sp_Machine_beat (dVar 0) (dCons (dVar 1) (dNil))) (dCons (dVar 2) (dNil))))) (dNil)))


abbrev N_l_right : List Str := ["_law_machine", "_law_came", "_law_sheet_here", "_law_rows"]
def t_l_right (sp_Machine_lying sp_Machine_leases sp_Machine_berths : SpD) : TSd :=
    dSeq (dAsg (dLC (dItems (dMeth C_Machine "lying" sp_Machine_lying (dVar 0) dNil)) (gN 0) (dYes) (dSl (dVar 0) (dNoPart) (dPart (dC (.d (.int 4))))) 1 []) (gN 3)) <|
    dSeq (dIf (dTest (dOp (rdIsN false) (dVar 2) (dC (.d .none))))
      (dRet (dAndV (dOp rdEqT (dVar 3) (dLst (dNil))) (dOp rdEqT (dMeth C_Machine "leases" sp_Machine_leases (dVar 0) dNil) (dLst (dNil)))))
      (dNext)) <|
    dSeq (dIf (dTest (dOp rdNeT (dVar 3) (dLC (dItems (dOp rdIx (dVar 2) (dC (.d (.int 2))))) (gN 0) (dYes) (dOp rdCatT (dTup (dCons (dOp rdIx (dVar 0) (dC (.d (.int 0)))) (dNil))) (dDGet (dVar 1) (dOp rdIx (dVar 0) (dC (.d (.int 0)))))) 1 [1])))
      (dRet (dC (.d (.bool false))))
      (dNext)) <|
    dRet (dAndV (dOp rdEqT (dMeth C_Machine "leases" sp_Machine_leases (dVar 0) dNil) (dOp rdIx (dVar 2) (dC (.d (.int 3))))) (dOp rdLe (dCB rdLen (dCons (dMeth C_Machine "lying" sp_Machine_lying (dVar 0) dNil) (dNil))) (dMeth C_Machine "berths" sp_Machine_berths (dVar 0) dNil)))


abbrev N_law : List Str := ["_law_script", "_law_bag_here", "_law_machines", "_law_up", "_law_life", "_law_sheet_here", "_law_newest", "_law_came", "_law_turn", "_law_way", "_law_thing", "_law_due", "_law_told", "_law_seen_here", "_law_kept", "_law_number"]
def t_law (sp_l_bag sp_Machine_init sp_l_take sp_l_drawn sp_l_done sp_Machine_copied sp_l_seen sp_l_right sp_Machine_fail sp_Machine_go_on sp_Machine_rise sp_Machine_take sp_Machine_life sp_Machine_fall : SpD) : TSd :=
    dSeq (dAsg (dCall sp_l_bag (dCons (dVar 0) (dNil))) (gN 1)) <|
    dSeq (dAsg (dLstM (dCons (dMake C_Machine sp_Machine_init (dCons (dC (.d (.str "ma"))) (dCons (dC (.d (.int 6))) (dNil)))) (dNil))) (gN 2)) <|
    dSeq (dParG 5 (dCons (dC (.d (.bool false))) (dCons (dC (.d (.int 0))) (dCons (dC (.d .none)) (dCons (dC (.d (.int 0))) (dCons (dNewDic) (dNil)))))) (gsCons (gN 3) (gsCons (gN 4) (gsCons (gN 5) (gsCons (gN 6) (gsCons (gN 7) (gsNil))))))) <|
    dSeq (dFor (dRng2 (dCons (dC (.d (.int 1))) (dCons (dOp rdAdd (dC (.d (.int 2))) (dCall sp_l_take (dCons (dVar 1) (dCons (dC (.d (.int 36))) (dNil))))) (dNil)))) (gN 8)
      (dSeq (dAsg (dCall sp_l_drawn (dCons (dVar 1) (dCons (dVar 8) (dCons (dVar 4) (dNil))))) (gT 2 (gsCons (gN 9) (gsCons (gN 10) (gsNil))))) <|
      dSeq (dAsg (dAndV (dOp rdEqT (dVar 9) (dC (.d (.int 3)))) (dAndV (dVar 3) (dAndV (dOp rdEqT (dOp rdIx (dVar 10) (dC (.d (.int 0)))) (dVar 4)) (dOp rdGt (dOp rdIx (dVar 10) (dC (.d (.int 1)))) (dVar 6))))) (gN 11)) <|
      dSeq (dStillLS (dAsg (dLC (dItemsF (dVar 2)) (gN 0) (dYes) (dCall sp_l_done (dCons (dVar 0) (dCons (dVar 1) (dCons (dVar 2) (dNil))))) 1 [9,10]) (gN 12))) <|
      dSeq (dIf (dOr (dTest (dOp rdNeT (dCB rdReprT (dCons (dVar 12) (dNil))) (dCB rdReprT (dCons (dOp rdRep (dLstM (dCons (dOp rdIx (dVar 12) (dC (.d (.int 0)))) (dNil))) (dCB rdLen (dCons (dVar 12) (dNil)))) (dNil))))) (dAnd (dTest (dOp rdEqT (dVar 9) (dC (.d (.int 3))))) (dTest (dOp rdNeT (dCB rdReprT (dCons (dOp rdIx (dVar 12) (dC (.d (.int 0)))) (dNil))) (dCB rdReprT (dCons (dVar 11) (dNil)))))))
        (dRet (dC (.d (.bool false))))
        (dNext)) <|
      dSeq (dIf (dAnd (dTest (dOp rdEqT (dVar 9) (dC (.d (.int 0))))) (dNot (dTest (dVar 3))))
        (dPar3 3 4 6 (dCons (dC (.d (.bool true))) (dCons (dOp rdAdd (dVar 4) (dC (.d (.int 1)))) (dCons (dC (.d (.int 0))) (dNil)))))
        (dNext)) <|
      dSeq (dIf (dTest (dOp rdEqT (dVar 9) (dC (.d (.int 1)))))
        (dAsg (dC (.d (.bool false))) (gN 3))
        (dNext)) <|
      dSeq (dIf (dAnd (dTest (dOp rdLt (dVar 9) (dC (.d (.int 2))))) (dTest (dOp rdIx (dVar 12) (dC (.d (.int 0))))))
        (dParG 2 (dCons (dC (.d .none)) (dCons (dNewDic) (dNil))) (gsCons (gN 5) (gsCons (gN 7) (gsNil))))
        (dNext)) <|
      dSeq (dIf (dTest (dVar 11))
        (dSeq (dPar 5 6 (dCons (dVar 10) (dCons (dOp rdIx (dVar 10) (dC (.d (.int 1)))) (dNil)))) <|
        dAsg (dCB rdDictPs (dCons (dLC (dItems (dOp rdIx (dVar 10) (dC (.d (.int 2))))) (gN 0) (dYes) (dTup (dCons (dOp rdIx (dVar 0) (dC (.d (.int 0)))) (dCons (dGet2 (dVar 1) (dOp rdIx (dVar 0) (dC (.d (.int 0)))) (dCB rdTupleOf (dCons (dSl (dVar 0) (dPart (dC (.d (.int 1)))) (dPart (dC (.d (.int 4))))) (dNil)))) (dNil)))) 1 [7]) (dNil))) (gN 7))
        (dNext)) <|
      dSeq (dIf (dAnd (dTest (dOp rdLt (dCB rdLen (dCons (dVar 2) (dNil))) (dC (.d (.int 4))))) (dTest (dOp rdEqT (dCall sp_l_take (dCons (dVar 1) (dCons (dC (.d (.int 8))) (dNil)))) (dC (.d (.int 0))))))
        (dDrop (dAppend (dVar 2) (dMeth C_Machine "copied" sp_Machine_copied (dOp rdIx (dVar 2) (dCall sp_l_take (dCons (dVar 1) (dCons (dCB rdLen (dCons (dVar 2) (dNil))) (dNil))))) dNil)))
        (dNext)) <|
      dSeq (dStillLS (dAsg (dLC (dItemsF (dVar 2)) (gN 0) (dYes) (dCall sp_l_seen (dCons (dVar 0) (dCons (dVar 1) (dNil)))) 1 [8]) (gN 13))) <|
      dIf (dOr (dTest (dOp rdNeT (dVar 13) (dOp rdRep (dLstM (dCons (dOp rdIx (dVar 13) (dC (.d (.int 0)))) (dNil))) (dCB rdLen (dCons (dVar 13) (dNil)))))) (dNot (dTest (dCall sp_l_right (dCons (dOp rdIx (dVar 2) (dC (.d (.int 0)))) (dCons (dVar 7) (dCons (dVar 5) (dNil))))))))
        (dRet (dC (.d (.bool false))))
        (dNext))) <|
    dSeq (dAsg (dLC (dItemsN (dSlW (dVar 2) (dPart (dC (.d (.int 1)))) (dNoPart))) (gN 0) (dYes) (dCall sp_l_seen (dCons (dVar 0) (dCons (dC (.d (.int 99))) (dNil)))) 1 []) (gN 14)) <|
    dSeq (dFor (dRng2 (dCons (dC (.d (.int 1))) (dCons (dC (.d (.int 13))) (dNil)))) (gN 15)
      (dDrop (dMeth C_Machine "fail" sp_Machine_fail (dOp rdIx (dVar 2) (dC (.d (.int 0)))) (dCons (dVar 15) (dNil))))) <|
    dSeq (dFor (dRng1 (dCons (dC (.d (.int 3))) (dNil))) (gN 8)
      (dSeq (dDrop (dMeth C_Machine "go_on" sp_Machine_go_on (dOp rdIx (dVar 2) (dC (.d (.int 0)))) dNil)) <|
      dIf (dTest (dOp rdNeT (dLC (dItemsN (dSlW (dVar 2) (dPart (dC (.d (.int 1)))) (dNoPart))) (gN 0) (dYes) (dCall sp_l_seen (dCons (dVar 0) (dCons (dC (.d (.int 99))) (dNil)))) 1 []) (dVar 14)))
        (dRet (dC (.d (.bool false))))
        (dNext))) <|
    dSeq (dDrop (dMeth C_Machine "rise" sp_Machine_rise (dOp rdIx (dVar 2) (dC (.d (.int 0)))) dNil)) <|
    dSeq (dDrop (dMeth C_Machine "take" sp_Machine_take (dOp rdIx (dVar 2) (dC (.d (.int 0)))) (dCons (dTup (dCons (dMeth C_Machine "life" sp_Machine_life (dOp rdIx (dVar 2) (dC (.d (.int 0)))) dNil) (dCons (dOp rdPow (dC (.d (.int 10))) (dC (.d (.int 6)))) (dCons (dLst (dNil)) (dCons (dLst (dNil)) (dNil)))))) (dNil)))) <|
    dSeq (dDrop (dMeth C_Machine "fall" sp_Machine_fall (dOp rdIx (dVar 2) (dC (.d (.int 0)))) dNil)) <|
    dRet (dOp rdEqT (dLC (dItemsN (dSlW (dVar 2) (dPart (dC (.d (.int 1)))) (dNoPart))) (gN 0) (dYes) (dCall sp_l_seen (dCons (dVar 0) (dCons (dC (.d (.int 99))) (dNil)))) 1 []) (dVar 14))
structure Mc where
  num : Int
  wish : Str
  kind : Str
  ed : Int
  start : Int
  hands : Int
  st : Str
  left : Int
def rowD (c : Mc) : PyData := .tuple [.int c.num,.str c.wish,.str c.kind,.int c.ed,.int c.start,.int c.hands]
def cpD (c : Mc) : PyData := .tuple [rowD c,.str c.st,.int c.left]
def cells (c : Mc) : List W := [.d (.str c.wish),.d (.str c.kind),.d (.int c.ed),.d (.int c.start),.d (.str c.st),.d (.int c.left)]
def Fr (M M' : MH) (T : List Addr) : Prop := ∀ q o,M q = some o -> q ∉ T -> M' q = some o
theorem Fr.refl (M : MH) (T : List Addr) : Fr M M T := λ _ _ h _ => h
theorem Fr.trans {A B C : MH} {T U : List Addr} (h : Fr A B T) (k : Fr B C U) : Fr A C (T ++ U) := λ q o e n => k q o (h q o e λ z => n (List.mem_append_left _ z)) λ z => n (List.mem_append_right _ z)
theorem Fr.mono {A B : MH} {T U : List Addr} (h : Fr A B T) (s : ∀ q ∈ T,q ∈ U) : Fr A B U := λ q o e n => h q o e λ z => n (s q z)
theorem Fr.of_ext {A B : MH} (h : Ext A B) (T : List Addr) : Fr A B T := λ q o e _ => h q o e
theorem Fr.of_eq {A B : MH} {p : Addr} (h : ∀ q,q ≠ p -> B q = A q) : Fr A B [p] := λ q o e n => by rw [h q (by simpa using n)]; exact e
theorem Fr.upd {A B : MH} {T : List Addr} {p : Addr} {o : MO} (h : Fr A B T) : Fr A (updM B p o) (p :: T) := λ q u e n => by
  rw [updM_ne (λ z => n (by simp [z]))]
  exact h q u e λ z => n (by simp [z])
theorem Fr.updt {A B : MH} {T : List Addr} {p : Addr} {o : MO} (h : Fr A B T) (hp : p ∈ T) : Fr A (updM B p o) T := λ q u e n => by
  rw [updM_ne (λ z : q = p => n (by rw [z]; exact hp))]
  exact h q u e n
theorem Fr.bag {A B : MH} {T : List Addr} {p : Addr} (h : Fr A B T) (hb : Bag A p) (n : p ∉ T) : Bag B p := by
  obtain ⟨a,b,c,ns,h1,h2⟩ := hb
  exact ⟨a,b,c,ns,h p _ h1 n,h2⟩
structure Mst where
  up : Bool
  life : Int
  sheet : Int
  L : List Mc
  lz : List PyData
abbrev flm (nm : Str) (room : Int) (S : Mst) (d : Addr) : List (Str × W) := [("name",.d (.str nm)),("berth_count",.d (.int room)),("standing",.d (.bool S.up)),("lives",.d (.int S.life)),("sheet_turn",.d (.int S.sheet)),("laid",.m d),("known_leases",.d (.list S.lz))]
def ri (L : List Mc) : List (Key × PyData) := L.map λ c => (.inl c.num,cpD c)
structure Pm (M : MH) (s d : Addr) (nm : Str) (room : Int) (S : Mst) : Prop where
  hs : M s = some (.ins C_Machine (flm nm room S d))
  hd : M d = some (.dic (dataKV (ri S.L)))
theorem Pm.ne {M : MH} {s d : Addr} {nm : Str} {room : Int} {S : Mst} (h : Pm M s d nm room S) : s ≠ d := ne_M h.hs h.hd (by intro z; cases z)
theorem Pm.keep {M M' : MH} {s d : Addr} {nm : Str} {room : Int} {S : Mst} {T : List Addr} (h : Pm M s d nm room S) (f : Fr M M' T) (n1 : s ∉ T) (n2 : d ∉ T) : Pm M' s d nm room S := ⟨f _ _ h.hs n1,f _ _ h.hd n2⟩
def fi (L : List Mc) (n : Int) : Option Mc := L.find? λ c => decide (c.num = n)
theorem fi_cons (c : Mc) (L : List Mc) (n : Int) : fi (c :: L) n = if c.num = n then some c else fi L n := by
  by_cases e : c.num = n <;> simp [fi,List.find?_cons,e]
theorem fi_mem {L : List Mc} {n : Int} {c : Mc} (h : fi L n = some c) : c ∈ L /\ c.num = n := by
  unfold fi at h
  have h1 := List.find?_some h
  exact ⟨List.mem_of_find?_eq_some h,by simpa using h1⟩
theorem fi_none {L : List Mc} {n : Int} (h : fi L n = none) : ∀ c ∈ L,c.num ≠ n := by
  unfold fi at h
  intro b hb e
  have := List.find?_eq_none.mp h b hb
  simp [e] at this
theorem tget_ri (L : List Mc) (n : Int) : tget (dataKV (ri L)) (.inl n) = (fi L n).map λ c => .d (cpD c) := by
  induction L with
  | nil => rfl
  | cons c L ih =>
    have e1 : dataKV (ri (c :: L)) = ((.inl c.num : Key),W.d (cpD c)) :: dataKV (ri L) := rfl
    rw [e1,tget_cons,fi_cons,ih]
    by_cases e : c.num = n
    · simp [e]
    · have e' : ¬ (Sum.inl c.num : Key) = .inl n := λ z => e (Sum.inl.inj z)
      simp [e,e']
theorem ri_len (L : List Mc) : (dataKV (ri L)).length = L.length := by simp [dataKV,ri]
def up1 (L : List Mc) (n : Int) (f : Mc -> Mc) : List Mc := L.map λ c => if c.num = n then f c else c
theorem tput_ri {L : List Mc} {n : Int} {c : Mc} {f : Mc -> Mc} (nd : (L.map Mc.num).Nodup) (h : fi L n = some c) (hf : ∀ c,(f c).num = c.num) : tput (dataKV (ri L)) (.inl n) (.d (cpD (f c))) = dataKV (ri (up1 L n f)) := by
  unfold tput
  rw [tget_any,tget_ri,h,if_pos (by rfl)]
  have e1 : dataKV (ri L) = L.map λ c => ((.inl c.num : Key),W.d (cpD c)) := by simp [dataKV,ri]
  have e2 : dataKV (ri (up1 L n f)) = L.map λ y => ((.inl (if y.num = n then f y else y).num : Key),W.d (cpD (if y.num = n then f y else y))) := by simp [dataKV,ri,up1]
  rw [e1,e2,List.map_map]
  refine List.map_congr_left λ y hy => ?_
  by_cases e : y.num = n
  · have : y = c := by
      obtain ⟨h1,h2⟩ := fi_mem h
      clear e1 e2 h
      induction L with
      | nil => cases hy
      | cons x L ih =>
        rw [List.map_cons,List.nodup_cons] at nd
        rcases List.mem_cons.mp hy with a | a <;> rcases List.mem_cons.mp h1 with b | b
        · rw [a,b]
        · exact absurd (List.mem_map.mpr ⟨c,b,by rw [h2,<- e,a]⟩) nd.1
        · exact absurd (List.mem_map.mpr ⟨y,a,by rw [e,<- h2,b]⟩) nd.1
        · exact ih nd.2 a b
    subst this
    simp [e,hf]
  · have e' : ¬ (Sum.inl y.num : Key) = .inl n := λ z => e (Sum.inl.inj z)
    simp [e,e']
def st0 : Mst := ⟨false,0,0,[],[]⟩
def sp_Machine_init : SpD := λ ws M Q => ∃ (s : Addr) (nm : Str) (room : Int),ws = [.m s,.d (.str nm),.d (.int room)] /\ M s = some (.ins C_Machine []) /\ ∀ d M',M d = none -> Pm M' s d nm room st0 -> Fr M M' [s] -> Q (.d .none) M'
theorem len_Machine_init : ∀ ws M Q,sp_Machine_init ws M Q -> ws.length = 3 := by rintro ws M Q ⟨s,nm,room,rfl,_⟩; rfl
theorem read_Machine_init : ∀ ws M Q,sp_Machine_init ws M Q -> t_Machine_init { nx := λ _ M' => Q (.d .none) M',rt := Q } (startD N_Machine_init ws) M := by
  rintro ws M Q ⟨s,nm,room,rfl,hs,k⟩
  have c1 : ∀ n : Nat,n < 10 -> n < 1000 := λ n h => by omega
  refine ⟨_,rfl,_,rfl,s,_,rfl,hs,c1 _ (by decide),?_⟩
  refine ⟨_,rfl,_,rfl,s,_,rfl,updM_same,c1 _ (by show 1 < 10; decide),?_⟩
  refine ⟨_,rfl,s,_,rfl,updM_same,c1 _ (by show 2 < 10; decide),?_⟩
  refine ⟨_,rfl,s,_,rfl,updM_same,c1 _ (by show 3 < 10; decide),?_⟩
  refine ⟨_,rfl,s,_,rfl,updM_same,c1 _ (by show 4 < 10; decide),?_⟩
  refine λ d hd => ⟨_,rfl,s,_,rfl,upd_get updM_same hd,c1 _ (by show 5 < 10; decide),?_⟩
  have n1 : d ≠ s := λ e => by rw [e,updM_same] at hd; cases hd
  have hdM : M d = none := by
    rw [updM_ne n1,updM_ne n1,updM_ne n1,updM_ne n1,updM_ne n1] at hd; exact hd
  refine ⟨_,rfl,few (by simp),_,rfl,s,_,rfl,updM_same,c1 _ (by show 6 < 10; decide),?_⟩
  refine k d _ hdM ⟨by rw [updM_same]; rfl,?_⟩ ?_
  · rw [updM_ne n1,updM_ne n1,updM_same]; rfl
  · intro q o e n
    have n2 : q ≠ s := by simpa using n
    have n3 : q ≠ d := λ z => by rw [z,hdM] at e; cases e
    rw [updM_ne n2,updM_ne n2,updM_ne n3,updM_ne n2,updM_ne n2,updM_ne n2,updM_ne n2,updM_ne n2]; exact e
def isA (c : Mc) : Bool := decide (c.st = "answering")
def sp_is_answering : SpD := λ ws M Q => ∃ c,ws = [.d (cpD c)] /\ Q (.d (.bool (isA c))) M
theorem len_is_answering : ∀ ws M Q,sp_is_answering ws M Q -> ws.length = 1 := by rintro ws M Q ⟨c,rfl,_⟩; rfl
theorem read_is_answering : ∀ ws M Q,sp_is_answering ws M Q -> t_is_answering { nx := λ _ M' => Q (.d .none) M',rt := Q } (startD N_is_answering ws) M := by
  rintro ws M Q ⟨c,rfl,k⟩
  refine ⟨_,rfl,_,rfl,rfl,_,_,rfl,_,_,rfl,_,_,rfl,rfl,_,rfl,_,_,.d,.d,rfl,?_⟩
  rw [eqv_str']
  exact k
def failC (c : Mc) : Mc := { c with st := "failed",left := 0 }
def sp_failed : SpD := λ ws M Q => ∃ c,ws = [.d (cpD c)] /\ Q (.d (cpD (failC c))) M
theorem len_failed : ∀ ws M Q,sp_failed ws M Q -> ws.length = 1 := by rintro ws M Q ⟨c,rfl,_⟩; rfl
theorem read_failed : ∀ ws M Q,sp_failed ws M Q -> t_failed { nx := λ _ M' => Q (.d .none) M',rt := Q } (startD N_failed ws) M := by
  rintro ws M Q ⟨c,rfl,k⟩
  exact ⟨_,rfl,_,rfl,rfl,_,_,rfl,_,_,rfl,_,_,rfl,rfl,_,rfl,_,rfl,few (by simp),k⟩
def ansL (L : List Mc) (n : Int) : Bool := match fi L n with
  | some c => isA c
  | none => false
def sp_Machine_answers : SpD := λ ws M Q => ∃ s d nm room S n,ws = [.m s,.d (.int n)] /\ Pm M s d nm room S /\ Q (.d (.bool (ansL S.L n))) M
theorem len_Machine_answers : ∀ ws M Q,sp_Machine_answers ws M Q -> ws.length = 2 := by rintro ws M Q ⟨s,d,nm,room,S,n,rfl,_⟩; rfl
theorem lk_laid {nm : Str} {room : Int} {S : Mst} {d : Addr} : (flm nm room S d).lookup ("laid" : Str) = some (.m d) := rfl
theorem read_Machine_answers : ∀ ws M Q,sp_Machine_answers ws M Q -> t_Machine_answers sp_is_answering { nx := λ _ M' => Q (.d .none) M',rt := Q } (startD N_Machine_answers ws) M := by
  rintro ws M Q ⟨s,d,nm,room,S,n,rfl,H,k⟩
  refine ⟨_,rfl,_,rfl,s,_,_,rfl,H.hs,lk_laid,_,.k (k := .inl n) H.hd,?_⟩
  have t1 := tget_ri S.L n
  rw [t1]
  unfold ansL at k
  cases e : fi S.L n with
  | none =>
    rw [e] at k
    exact ⟨_,rfl,iteF k⟩
  | some c =>
    rw [e] at k t1
    exact ⟨_,rfl,iteT ⟨_,rfl,s,_,_,rfl,H.hs,lk_laid,_,rfl,d,_,.inl n,_,rfl,.inl H.hd,rfl,t1,c,rfl,k⟩⟩
theorem lk_ans {nm : Str} {room : Int} {S : Mst} {d : Addr} : (flm nm room S d).lookup ("answers" : Str) = none := rfl
def failL (L : List Mc) (n : Int) : List Mc := up1 L n λ c => if isA c = true then failC c else c
theorem failC_num (c : Mc) : (if isA c = true then failC c else c).num = c.num := by split <;> rfl
theorem failL_no {L : List Mc} {n : Int} (nd : (L.map Mc.num).Nodup) (h : ansL L n = false) : failL L n = L := by
  unfold failL up1
  refine (List.map_congr_left λ c hc => ?_).trans (List.map_id L)
  by_cases e : c.num = n
  · have : isA c = false := by
      unfold ansL at h
      cases q : fi L n with
      | none => exact absurd e (fi_none q c hc)
      | some c' =>
        rw [q] at h
        obtain ⟨h1,h2⟩ := fi_mem q
        have : c = c' := by
          clear h q
          induction L with
          | nil => cases hc
          | cons x L ih =>
            rw [List.map_cons,List.nodup_cons] at nd
            rcases List.mem_cons.mp hc with a | a <;> rcases List.mem_cons.mp h1 with b | b
            · rw [a,b]
            · exact absurd (List.mem_map.mpr ⟨c',b,by rw [h2,<- e,a]⟩) nd.1
            · exact absurd (List.mem_map.mpr ⟨c,a,by rw [e,<- h2,b]⟩) nd.1
            · exact ih nd.2 a b
        rw [this]
        exact h
    simp [e,this]
  · simp [e]
def sp_Machine_fail : SpD := λ ws M Q => ∃ s d nm room S n,ws = [.m s,.d (.int n)] /\ Pm M s d nm room S /\ (S.L.map Mc.num).Nodup /\ S.L.length <= 100 /\ ∀ M',Pm M' s d nm room { S with L := failL S.L n } -> Fr M M' [d] -> Q (.d (.bool (ansL S.L n))) M'
theorem len_Machine_fail : ∀ ws M Q,sp_Machine_fail ws M Q -> ws.length = 2 := by rintro ws M Q ⟨s,d,nm,room,S,n,rfl,_⟩; rfl
theorem read_Machine_fail : ∀ ws M Q,sp_Machine_fail ws M Q -> t_Machine_fail sp_Machine_answers sp_failed { nx := λ _ M' => Q (.d .none) M',rt := Q } (startD N_Machine_fail ws) M := by
  rintro ws M Q ⟨s,d,nm,room,S,n,rfl,H,nd,hl,k⟩
  have s16' := s16
  refine ⟨_,rfl,s,_,rfl,H.hs,lk_ans,_,rfl,s,d,nm,room,S,n,rfl,H,_,rfl,?_⟩
  cases q : ansL S.L n with
  | false =>
    rw [q] at k
    refine iteT ?_
    exact k M (by rw [failL_no nd q]; exact H) (Fr.refl _ _)
  | true =>
    rw [q] at k
    have t1 := tget_ri S.L n
    unfold ansL at q
    cases e : fi S.L n with
    | none => rw [e] at q; cases q
    | some c =>
      rw [e] at q t1
      dsimp only at q
      refine iteF ⟨_,rfl,s,_,_,rfl,H.hs,lk_laid,_,rfl,d,_,.inl n,_,rfl,.inl H.hd,rfl,t1,c,rfl,_,rfl,s,_,_,rfl,H.hs,lk_laid,_,rfl,d,_,.inl n,rfl,H.hd,rfl,by rw [ri_len]; omega,?_⟩
      have tp := tput_ri (f := λ c => if isA c = true then failC c else c) nd e failC_num
      rw [if_pos q] at tp
      refine k _ ⟨by rw [updM_ne H.ne]; exact H.hs,?_⟩ (Fr.upd (Fr.refl _ _))
      rw [updM_same]
      exact congrArg (λ z => some (MO.dic z)) tp
def riseS (S : Mst) : Mst := if S.up = true then S else { S with up := true,life := S.life + 1,sheet := 0 }
def sp_Machine_rise : SpD := λ ws M Q => ∃ s d nm room S,ws = [.m s] /\ Pm M s d nm room S /\ ∀ M',Pm M' s d nm room (riseS S) -> Fr M M' [s] -> Q (.d (.bool (!S.up))) M'
theorem len_Machine_rise : ∀ ws M Q,sp_Machine_rise ws M Q -> ws.length = 1 := by rintro ws M Q ⟨s,d,nm,room,S,rfl,_⟩; rfl
theorem lk_standing {nm : Str} {room : Int} {S : Mst} {d : Addr} : (flm nm room S d).lookup ("standing" : Str) = some (.d (.bool S.up)) := rfl
theorem read_Machine_rise : ∀ ws M Q,sp_Machine_rise ws M Q -> t_Machine_rise { nx := λ _ M' => Q (.d .none) M',rt := Q } (startD N_Machine_rise ws) M := by
  rintro ws M Q ⟨s,d,nm,room,S,rfl,H,k⟩
  have c7 : (7 : Nat) < 1000 := by decide
  refine ⟨_,rfl,s,_,_,rfl,H.hs,lk_standing,_,rfl,?_⟩
  unfold riseS at k
  cases q : S.up with
  | true =>
    rw [q] at k
    refine iteT ?_
    exact k M (by rw [if_pos rfl]; exact H) (Fr.refl _ _)
  | false =>
    rw [q,if_neg (by decide)] at k
    refine iteF ?_
    refine ⟨_,rfl,s,_,rfl,H.hs,c7,?_⟩
    refine ⟨_,rfl,s,_,S.life,rfl,updM_same,rfl,1,_,rfl,updM_same,c7,?_⟩
    refine ⟨_,rfl,s,_,rfl,updM_same,c7,?_⟩
    have n1 := H.ne
    refine k _ ⟨by rw [updM_same]; rfl,by rw [updM_ne n1.symm,updM_ne n1.symm,updM_ne n1.symm]; exact H.hd⟩ ?_
    intro q o e n
    have n2 : q ≠ s := by simpa using n
    rw [updM_ne n2,updM_ne n2,updM_ne n2]
    exact e
def sp_Machine_fall : SpD := λ ws M Q => ∃ s d nm room S,ws = [.m s] /\ Pm M s d nm room S /\
  (S.up = false -> Q (.d (.bool false)) M) /\ (S.up = true -> ∀ d' M',M d' = none -> Pm M' s d' nm room { S with up := false,L := [],lz := [] } -> Fr M M' [s] -> Q (.d (.bool true)) M')
theorem len_Machine_fall : ∀ ws M Q,sp_Machine_fall ws M Q -> ws.length = 1 := by rintro ws M Q ⟨s,d,nm,room,S,rfl,_⟩; rfl
theorem read_Machine_fall : ∀ ws M Q,sp_Machine_fall ws M Q -> t_Machine_fall { nx := λ _ M' => Q (.d .none) M',rt := Q } (startD N_Machine_fall ws) M := by
  rintro ws M Q ⟨s,d,nm,room,S,rfl,H,k1,k2⟩
  have c7 : (7 : Nat) < 1000 := by decide
  refine ⟨_,rfl,s,_,_,rfl,H.hs,lk_standing,_,rfl,?_⟩
  cases q : S.up with
  | false => exact iteT (k1 q)
  | true =>
    refine iteF ?_
    refine ⟨_,rfl,s,_,rfl,H.hs,c7,?_⟩
    refine λ d' hd' => ⟨_,rfl,s,_,rfl,upd_get updM_same hd',c7,?_⟩
    refine ⟨_,rfl,few (by simp),_,rfl,s,_,rfl,updM_same,c7,?_⟩
    have n1 : d' ≠ s := λ e => by rw [e,updM_same] at hd'; cases hd'
    have hdM : M d' = none := by rw [updM_ne n1] at hd'; exact hd'
    refine k2 q d' _ hdM ⟨by rw [updM_same]; rfl,by rw [updM_ne n1,updM_ne n1,updM_same]; rfl⟩ ?_
    intro q o e n
    have n2 : q ≠ s := by simpa using n
    have n3 : q ≠ d' := λ z => by rw [z,hdM] at e; cases e
    rw [updM_ne n2,updM_ne n2,updM_ne n3,updM_ne n2]
    exact e
def newC (c : Mc) : Mc := { c with st := "starting",left := c.start }
def sp_new_copy : SpD := λ ws M Q => ∃ c,ws = [.d (rowD c)] /\ Q (.d (cpD (newC c))) M
theorem len_new_copy : ∀ ws M Q,sp_new_copy ws M Q -> ws.length = 1 := by rintro ws M Q ⟨c,rfl,_⟩; rfl
theorem read_new_copy : ∀ ws M Q,sp_new_copy ws M Q -> t_new_copy { nx := λ _ M' => Q (.d .none) M',rt := Q } (startD N_new_copy ws) M := by
  rintro ws M Q ⟨c,rfl,k⟩
  exact ⟨_,rfl,_,rfl,rfl,_,_,rfl,_,_,rfl,_,_,rfl,_,_,rfl,_,_,rfl,_,_,rfl,rfl,_,rfl,_,rfl,_,rfl,few (by simp),k⟩
def goC (c : Mc) : Mc := if c.st = "failed" then newC c else if c.st = "starting" /\ 0 < c.left then { c with left := c.left - 1 } else { c with st := "answering",left := 0 }
theorem goC_num (c : Mc) : (goC c).num = c.num := by
  unfold goC
  split
  · rfl
  · split <;> rfl
def sp_gone_on : SpD := λ ws M Q => ∃ c,ws = [.d (cpD c)] /\ Q (.d (cpD (goC c))) M
theorem len_gone_on : ∀ ws M Q,sp_gone_on ws M Q -> ws.length = 1 := by rintro ws M Q ⟨c,rfl,_⟩; rfl
theorem read_gone_on : ∀ ws M Q,sp_gone_on ws M Q -> t_gone_on sp_new_copy { nx := λ _ M' => Q (.d .none) M',rt := Q } (startD N_gone_on ws) M := by
  rintro ws M Q ⟨c,rfl,k⟩
  unfold goC at k
  refine ⟨_,rfl,_,rfl,rfl,_,_,rfl,_,_,rfl,_,_,rfl,rfl,_,rfl,_,_,.d,.d,rfl,_,rfl,?_⟩
  rw [eqv_str']
  by_cases h1 : c.st = "failed"
  · rw [if_pos h1] at k
    exact ite_y (decide_eq_true h1) ⟨_,rfl,c,rfl,k⟩
  · rw [if_neg h1] at k
    refine ite_n (decide_eq_false h1) ?_
    refine ⟨_,rfl,_,_,.d,.d,rfl,_,rfl,?_⟩
    rw [eqv_str']
    by_cases h2 : c.st = "starting"
    · refine ite_y (decide_eq_true h2) ⟨_,rfl,_,_,rfl,rfl,_,rfl,?_⟩
      by_cases h3 : 0 < c.left
      · rw [if_pos ⟨h2,h3⟩] at k
        refine ite_y (decide_eq_true h3) ⟨_,rfl,_,rfl,_,_,rfl,rfl,_,rfl,few (by simp),?_⟩
        rw [<- h2]
        exact k
      · rw [if_neg (λ z => h3 z.2)] at k
        refine ite_n (decide_eq_false h3) ⟨_,rfl,_,rfl,few (by simp),k⟩
    · rw [if_neg (λ z => h2 z.1)] at k
      refine ite_n (decide_eq_false h2) ?_
      exact iteF ⟨_,rfl,_,rfl,few (by simp),k⟩
theorem fi_no {L : List Mc} {n : Int} (h : n ∉ L.map Mc.num) : fi L n = none := by
  unfold fi
  rw [List.find?_eq_none]
  intro c hc e
  exact h (List.mem_map.mpr ⟨c,hc,by simpa using e⟩)
theorem tput_new {L : List Mc} {n : Int} {c : Mc} (h : n ∉ L.map Mc.num) (hc : c.num = n) : tput (dataKV (ri L)) (.inl n) (.d (cpD c)) = dataKV (ri (L ++ [c])) := by
  unfold tput
  rw [tget_any,tget_ri,fi_no h,if_neg (by simp)]
  subst hc
  simp [dataKV,ri]
theorem nd_head {α : Type} {f : α -> Int} {L : List α} (nd : (L.map f).Nodup) {i : Nat} {c : α} (h : L[i]? = some c) : f c ∉ (L.take i).map f := by
  intro hm
  obtain ⟨b,hb,e⟩ := List.mem_map.mp hm
  obtain ⟨j,hj,rfl⟩ := List.mem_iff_getElem.mp hb
  obtain ⟨hi,h2⟩ := List.getElem?_eq_some_iff.mp h
  rw [List.length_take] at hj
  rw [List.nodup_iff_pairwise_ne,List.pairwise_iff_getElem] at nd
  refine nd j i (by simp; omega) (by simpa using hi) (by omega) ?_
  simp [h2] at e ⊢
  exact e
def sp_Machine_go_on : SpD := λ ws M Q => ∃ s d nm room S,ws = [.m s] /\ Pm M s d nm room S /\ (S.L.map Mc.num).Nodup /\ S.L.length <= 100 /\ ∀ d' M',M d' = none -> Pm M' s d' nm room { S with L := S.L.map goC } -> Fr M M' [s] -> Q (.d .none) M'
theorem len_Machine_go_on : ∀ ws M Q,sp_Machine_go_on ws M Q -> ws.length = 1 := by rintro ws M Q ⟨s,d,nm,room,S,rfl,_⟩; rfl
theorem pairs_at' {L : List Mc} {i : Nat} {w : W} (h : (pairsW (ri L))[i]? = some w) : ∃ c,L[i]? = some c /\ w = .d (.tuple [.int c.num,cpD c]) := by
  unfold pairsW ri at h
  rw [List.map_map] at h
  obtain ⟨c,e,rfl⟩ := map_at h
  exact ⟨c,e,rfl⟩
theorem pairs_len' (L : List Mc) : (pairsW (ri L)).length = L.length := by simp [pairsW,ri]
theorem read_Machine_go_on : ∀ ws M Q,sp_Machine_go_on ws M Q -> t_Machine_go_on sp_gone_on { nx := λ _ M' => Q (.d .none) M',rt := Q } (startD N_Machine_go_on ws) M := by
  rintro ws M Q ⟨s,d,nm,room,S,rfl,H,nd,hl,k⟩
  have s16' := s16
  have n1 := H.ne
  refine ⟨d,_,H.hd,_,rfl,s,_,_,rfl,by rw [updM_ne n1]; exact H.hs,lk_laid,d,ri S.L,rfl,updM_same,λ p hp => ?_⟩
  have np : p ≠ d := λ z => by rw [z,updM_same] at hp; cases hp
  have hpM : M p = none := by rw [updM_ne np] at hp; exact hp
  refine ⟨λ i τ M' => i <= S.L.length /\ M' p = some (.dic (dataKV (ri ((S.L.take i).map goC)))) /\ (∀ q,q ≠ p -> M' q = updM M d (.fdic (dataKV (ri S.L))) q) /\ ∃ x y,τ = [x,y],⟨Nat.zero_le _,updM_same,λ q h => updM_ne h,_,_,rfl⟩,?_,?_⟩
  · rintro i w τ M' hw ⟨hi,h1,h2,x,y,rfl⟩
    obtain ⟨c,hc,rfl⟩ := pairs_at' hw
    have hlt := (List.getElem?_eq_some_iff.mp hc).1
    refine ⟨_,rfl,rfl,_,_,rfl,_,_,rfl,rfl,?_⟩
    dsimp only [dYes]
    rw [if_pos rfl]
    refine ⟨_,rfl,_,rfl,c,rfl,_,.inl c.num,h1,rfl,by rw [ri_len,List.length_map,List.length_take]; omega,hlt,?_,λ q hq => by rw [updM_ne hq]; exact h2 q hq,_,_,rfl⟩
    rw [updM_same]
    have hn : c.num ∉ ((S.L.take i).map goC).map Mc.num := by
      rw [List.map_map,show (Mc.num ∘ goC) = Mc.num from funext goC_num]
      exact nd_head nd hc
    have e1 : (S.L.take (i + 1)).map goC = (S.L.take i).map goC ++ [goC c] := by rw [List.take_succ,hc,List.map_append]; rfl
    rw [e1]
    exact congrArg (λ z => some (MO.dic z)) (tput_new hn (goC_num c))
  · rintro τ M' ⟨hi,h1,h2,x,y,rfl⟩
    rw [pairs_len',List.take_length] at h1
    have hd' : M' d = some (.fdic (dataKV (ri S.L))) := by rw [h2 d np.symm,updM_same]
    have hs' : M' s = M s := by rw [h2 s (ne_new H.hs hpM),updM_ne n1]
    refine ⟨hd',_,rfl,s,_,rfl,by rw [updM_ne n1,hs']; exact H.hs,by show 7 < 1000; decide,?_⟩
    refine k p _ hpM ⟨by rw [updM_same]; rfl,by rw [updM_ne (ne_new H.hs hpM).symm,updM_ne np]; exact h1⟩ ?_
    intro q o e n
    have n2 : q ≠ s := by simpa using n
    have n3 : q ≠ p := λ z => by rw [z,hpM] at e; cases e
    rw [updM_ne n2]
    by_cases qd : q = d
    · subst qd
      rw [updM_same,<- H.hd]
      exact e
    · rw [updM_ne qd,h2 q n3,updM_ne qd]
      exact e
def sheetD (life turn : Int) (rows : List Mc) (lz : List PyData) : PyData := .tuple [.int life,.int turn,.list (rows.map rowD),.list lz]
def takeL (L rows : List Mc) : List Mc := rows.map λ r => (fi L r.num).getD r
def okT (S : Mst) (life turn : Int) : Bool := S.up && decide (life = S.life) && decide (S.sheet < turn)
theorem getD_num {L : List Mc} {r : Mc} : ((fi L r.num).getD r).num = r.num := by
  cases e : fi L r.num with
  | none => rfl
  | some c => exact (fi_mem e).2
theorem lk_lives {nm : Str} {room : Int} {S : Mst} {d : Addr} : (flm nm room S d).lookup ("lives" : Str) = some (.d (.int S.life)) := rfl
theorem lk_sheet {nm : Str} {room : Int} {S : Mst} {d : Addr} : (flm nm room S d).lookup ("sheet_turn" : Str) = some (.d (.int S.sheet)) := rfl
theorem lk_name {nm : Str} {room : Int} {S : Mst} {d : Addr} : (flm nm room S d).lookup ("name" : Str) = some (.d (.str nm)) := rfl
def sp_Machine_take : SpD := λ ws M Q => ∃ s d nm room S life turn rows lz,ws = [.m s,.d (sheetD life turn rows lz)] /\ Pm M s d nm room S /\ (rows.map Mc.num).Nodup /\ rows.length <= 100 /\ (∀ r ∈ rows,newC r = r) /\
  (okT S life turn = false -> Q (.d (.bool false)) M) /\ (okT S life turn = true -> ∀ d' M',M d' = none -> Pm M' s d' nm room { S with sheet := turn,L := takeL S.L rows,lz := lz } -> Fr M M' [s] -> Q (.d (.bool true)) M')
theorem len_Machine_take : ∀ ws M Q,sp_Machine_take ws M Q -> ws.length = 2 := by rintro ws M Q ⟨s,d,nm,room,S,life,turn,rows,lz,rfl,_⟩; rfl
theorem read_Machine_take : ∀ ws M Q,sp_Machine_take ws M Q -> t_Machine_take sp_new_copy { nx := λ _ M' => Q (.d .none) M',rt := Q } (startD N_Machine_take ws) M := by
  rintro ws M Q ⟨s,d,nm,room,S,life,turn,rows,lz,rfl,H,nd,hl,hn,k1,k2⟩
  have s16' := s16
  have n1 := H.ne
  have c7 : (7 : Nat) < 1000 := by decide
  have no : okT S life turn = false -> dRet (dC (.d (.bool false))) { nx := λ _ M' => Q (.d .none) M',rt := Q } [some (.m s),some (.d (sheetD life turn rows lz)),some (.d (.int life)),some (.d (.int turn)),some (.d (.list (rows.map rowD))),some (.d (.list lz))] M := λ h => k1 h
  refine ⟨_,rfl,_,rfl,rfl,_,_,rfl,_,_,rfl,_,_,rfl,_,_,rfl,rfl,?_⟩
  refine ⟨_,rfl,s,_,_,rfl,H.hs,lk_standing,_,rfl,?_⟩
  unfold okT at k1 k2
  cases q1 : S.up with
  | false => rw [q1] at k1; exact iteT (iteT (k1 rfl))
  | true =>
    rw [q1] at k1 k2
    refine iteF ⟨_,rfl,_,rfl,s,_,_,rfl,H.hs,lk_lives,_,_,.d,.d,rfl,_,rfl,?_⟩
    rw [eqv_int']
    by_cases q2 : life = S.life
    · rw [decide_eq_true q2] at k1 k2 ⊢
      refine iteF ⟨_,rfl,_,rfl,s,_,_,rfl,H.hs,lk_sheet,.inl ⟨_,_,rfl,rfl,_,rfl,?_⟩⟩
      by_cases q3 : S.sheet < turn
      · rw [decide_eq_true q3] at k1 k2
        refine ite_n (decide_eq_false (by omega)) ?_
        refine ⟨_,rfl,_,rfl,s,_,rfl,H.hs,c7,?_⟩
        have H1 : Pm (updM M s (.ins C_Machine (flm nm room { S with sheet := turn } d))) s d nm room { S with sheet := turn } := ⟨updM_same,by rw [updM_ne n1.symm]; exact H.hd⟩
        have f1 : Fr M (updM M s (.ins C_Machine (flm nm room { S with sheet := turn } d))) [s] := Fr.upd (Fr.refl _ _)
        have eM : updM M s (.ins C_Machine (putW "sheet_turn" (.d (.int turn)) (flm nm room S d))) = updM M s (.ins C_Machine (flm nm room { S with sheet := turn } d)) := rfl
        rw [eM]
        generalize updM M s (.ins C_Machine (flm nm room { S with sheet := turn } d)) = M1 at H1 f1
        refine ⟨_,rfl,_,rfl,λ p hp => ?_⟩
        have hps : p ≠ s := λ z => by rw [z,H1.hs] at hp; cases hp
        have hpd : p ≠ d := λ z => by rw [z,H1.hd] at hp; cases hp
        refine ⟨λ i τ M' => i <= rows.length /\ M' p = some (.dic (dataKV (ri (takeL S.L (rows.take i))))) /\ (∀ q,q ≠ p -> M' q = M1 q) /\ ∃ x,τ = [x,some (.m s)],⟨Nat.zero_le _,updM_same,λ q h => updM_ne h,_,rfl⟩,?_,?_⟩
        · rintro i w τ M' hw ⟨hi,h1,h2,x,rfl⟩
          obtain ⟨w',hw',rfl⟩ := map_at hw
          obtain ⟨r,hr,rfl⟩ := map_at hw'
          have hlt := (List.getElem?_eq_some_iff.mp hr).1
          have Hs : M' s = some (.ins C_Machine (flm nm room { S with sheet := turn } d)) := by rw [h2 s hps.symm]; exact H1.hs
          have Hd : M' d = some (.dic (dataKV (ri S.L))) := by rw [h2 d hpd.symm]; exact H1.hd
          dsimp only [dYes,gN]
          rw [if_pos rfl]
          refine ⟨_,rfl,_,_,rfl,rfl,rfl,_,rfl,s,_,_,rfl,Hs,lk_laid,.k Hd,_,rfl,_,_,rfl,rfl,rfl,_,rfl,r,rfl,_,.k (k := .inl r.num) Hd,_,.inl r.num,h1,rfl,by rw [ri_len,takeL,List.length_map,List.length_take]; omega,hlt,?_,λ q hq => by rw [updM_ne hq]; exact h2 q hq,_,rfl⟩
          rw [updM_same,tget_ri]
          have hnn : r.num ∉ (takeL S.L (rows.take i)).map Mc.num := by
            unfold takeL
            rw [List.map_map,show (Mc.num ∘ λ r => (fi S.L r.num).getD r) = Mc.num from funext λ r => getD_num]
            exact nd_head nd hr
          have e1 : takeL S.L (rows.take (i + 1)) = takeL S.L (rows.take i) ++ [(fi S.L r.num).getD r] := by unfold takeL; rw [List.take_succ,hr,List.map_append]; rfl
          have e2 : ((fi S.L r.num).map λ c => W.d (cpD c)).getD (.d (cpD (newC r))) = .d (cpD ((fi S.L r.num).getD r)) := by
            rw [hn r (List.mem_of_getElem? hr)]
            cases fi S.L r.num <;> rfl
          rw [e1,e2]
          exact congrArg (λ z => some (MO.dic z)) (tput_new hnn getD_num)
        · rintro τ M' ⟨hi,h1,h2,x,rfl⟩
          rw [show ((rows.map rowD).map W.d).length = rows.length from by simp,List.take_length] at h1
          have Hs : M' s = some (.ins C_Machine (flm nm room { S with sheet := turn } d)) := by rw [h2 s hps.symm]; exact H1.hs
          refine ⟨_,rfl,s,_,rfl,Hs,c7,?_⟩
          have eM2 : updM M' s (.ins C_Machine (putW "laid" (.m p) (flm nm room { S with sheet := turn } d))) = updM M' s (.ins C_Machine (flm nm room { S with sheet := turn } p)) := rfl
          rw [eM2]
          have hs2 : updM M' s (.ins C_Machine (flm nm room { S with sheet := turn } p)) s = some (.ins C_Machine (flm nm room { S with sheet := turn } p)) := updM_same
          have hp2 : updM M' s (.ins C_Machine (flm nm room { S with sheet := turn } p)) p = some (.dic (dataKV (ri (takeL S.L rows)))) := by rw [updM_ne hps]; exact h1
          have hpM : M p = none := by
            cases e : M p with
            | none => rfl
            | some o => rw [f1 p o e (by simpa using hps)] at hp; cases hp
          have f2 : Fr M (updM M' s (.ins C_Machine (flm nm room { S with sheet := turn } p))) [s] := λ q o e n => by
            have n2 : q ≠ s := by simpa using n
            have n3 : q ≠ p := λ z => by rw [z,hpM] at e; cases e
            rw [updM_ne n2,h2 q n3]
            exact f1 q o e n
          generalize updM M' s (.ins C_Machine (flm nm room { S with sheet := turn } p)) = M2 at hs2 hp2 f2
          refine ⟨_,rfl,_,_,rfl,.l,λ l hl' => ?_⟩
          have x2 := sealed (o := .lst (lz.map W.d)) hl'
          refine ⟨l,lz,rfl,updM_same,_,rfl,s,_,rfl,x2 _ _ hs2,(by show 7 < 1000; decide),?_⟩
          refine k2 rfl p _ hpM ⟨by rw [updM_same,<- q1]; rfl,by rw [updM_ne hps]; exact x2 _ _ hp2⟩ ?_
          exact ((f2.trans (Fr.of_ext x2 [])).mono (by simp)).updt (by simp)
      · rw [decide_eq_false q3] at k1
        refine ite_y (decide_eq_true (by omega)) (k1 rfl)
    · rw [decide_eq_false q2] at k1 ⊢
      exact iteT (k1 rfl)
def toldD (c : Mc) : PyData := .tuple [.int c.num,.str c.wish,.str c.kind,.int c.ed,.str c.st]
def sp_told_copy : SpD := λ ws M Q => ∃ c,ws = [.d (cpD c)] /\ Q (.d (toldD c)) M
theorem len_told_copy : ∀ ws M Q,sp_told_copy ws M Q -> ws.length = 1 := by rintro ws M Q ⟨c,rfl,_⟩; rfl
theorem read_told_copy : ∀ ws M Q,sp_told_copy ws M Q -> t_told_copy { nx := λ _ M' => Q (.d .none) M',rt := Q } (startD N_told_copy ws) M := by
  rintro ws M Q ⟨c,rfl,k⟩
  exact ⟨_,rfl,_,rfl,rfl,_,_,rfl,⟨_,rfl,rfl,_,_,rfl,_,_,rfl,_,_,rfl,_,_,rfl,_,_,rfl,_,_,rfl,rfl,_,_,rfl,_,_,rfl,rfl,_,rfl,_,rfl,_,rfl,_,rfl,_,rfl,_,rfl,few (by simp),k⟩⟩
def sp_Machine_lying : SpD := λ ws M Q => ∃ s d nm room S,ws = [.m s] /\ Pm M s d nm room S /\ S.L.length <= 100 /\ Q (.d (.list (S.L.map toldD))) M
theorem len_Machine_lying : ∀ ws M Q,sp_Machine_lying ws M Q -> ws.length = 1 := by rintro ws M Q ⟨s,d,nm,room,S,rfl,_⟩; rfl
theorem vals_ri (L : List Mc) : valsOfW (ri L) = L.map λ c => W.d (cpD c) := by unfold valsOfW ri; rw [List.map_map]; rfl
theorem pairs_ri (L : List Mc) : pairsW (ri L) = L.map λ c => W.d (.tuple [.int c.num,cpD c]) := by unfold pairsW ri; rw [List.map_map]; rfl
theorem read_Machine_lying : ∀ ws M Q,sp_Machine_lying ws M Q -> t_Machine_lying sp_told_copy { nx := λ _ M' => Q (.d .none) M',rt := Q } (startD N_Machine_lying ws) M := by
  rintro ws M Q ⟨s,d,nm,room,S,rfl,H,hl,k⟩
  have n1 := H.ne
  refine ⟨d,_,H.hd,_,rfl,s,_,_,rfl,by rw [updM_ne n1]; exact H.hs,lk_laid,d,ri S.L,rfl,updM_same,?_⟩
  rw [vals_ri]
  refine lc_rows S.L (λ c => W.d (cpD c)) toldD (λ τ => ∃ x,τ = [x]) (by omega) ⟨_,rfl⟩ (λ c hc τ hτ R h => ?_) (λ τ => ?_)
  · obtain ⟨x,rfl⟩ := hτ
    exact ⟨_,rfl,c,rfl,_,rfl,h _ ⟨_,rfl⟩⟩
  · refine ⟨updM_same,?_⟩
    rw [upd_back H.hd]
    exact k
def beatR (c : Mc) : PyData := .tuple [.int c.num,.bool (isA c)]
def beatD (nm : Str) (S : Mst) (turn : Int) : PyData := if S.up = true then .tuple [.str nm,.int S.life,.int turn,.int S.sheet,.list (S.L.map beatR)] else .none
def sp_Machine_beat : SpD := λ ws M Q => ∃ s d nm room S turn,ws = [.m s,.d (.int turn)] /\ Pm M s d nm room S /\ S.L.length <= 100 /\ Q (.d (beatD nm S turn)) M
theorem len_Machine_beat : ∀ ws M Q,sp_Machine_beat ws M Q -> ws.length = 2 := by rintro ws M Q ⟨s,d,nm,room,S,turn,rfl,_⟩; rfl
theorem read_Machine_beat : ∀ ws M Q,sp_Machine_beat ws M Q -> t_Machine_beat sp_is_answering { nx := λ _ M' => Q (.d .none) M',rt := Q } (startD N_Machine_beat ws) M := by
  rintro ws M Q ⟨s,d,nm,room,S,turn,rfl,H,hl,k⟩
  have n1 := H.ne
  refine ⟨_,rfl,s,_,_,rfl,H.hs,lk_standing,_,rfl,?_⟩
  unfold beatD at k
  cases q : S.up with
  | false =>
    rw [q,if_neg (by decide)] at k
    exact iteT k
  | true =>
    rw [q,if_pos rfl] at k
    refine iteF ?_
    refine ⟨d,_,H.hd,_,rfl,s,_,_,rfl,by rw [updM_ne n1]; exact H.hs,lk_laid,d,ri S.L,rfl,updM_same,?_⟩
    rw [pairs_ri]
    refine lc_rows S.L (λ c => W.d (.tuple [.int c.num,cpD c])) beatR (λ τ => ∃ x y,τ = [x,y]) (by omega) ⟨_,_,rfl⟩ (λ c hc τ hτ R h => ?_) (λ τ => ?_)
    · obtain ⟨x,y,rfl⟩ := hτ
      exact ⟨_,rfl,rfl,_,_,rfl,_,_,rfl,rfl,_,rfl,_,rfl,c,rfl,_,rfl,few (by simp),_,rfl,h _ ⟨_,_,rfl⟩⟩
    · refine ⟨updM_same,?_⟩
      rw [upd_back H.hd]
      exact ⟨_,rfl,s,_,_,rfl,H.hs,lk_name,_,rfl,s,_,_,rfl,H.hs,lk_lives,_,rfl,_,rfl,s,_,_,rfl,H.hs,lk_sheet,_,rfl,_,rfl,few (by simp),k⟩
structure OkC (c : Mc) : Prop where
  st : (c.st = "starting" /\ 0 <= c.left) \/ (c.st = "answering" /\ c.left = 0) \/ (c.st = "failed" /\ c.left = 0)
  num : 0 <= c.num /\ c.num <= 1000
  ed : 0 <= c.ed /\ c.ed <= 1000
  start : 0 <= c.start /\ c.start <= 1000
  wa : ascB c.wish = true /\ c.wish.length <= 8
  ka : ascB c.kind = true /\ c.kind.length <= 8
theorem asc_nd {ns : List Int} (a : ns.Pairwise (· < ·)) : ns.Nodup := by
  rw [List.nodup_iff_pairwise_ne]
  exact a.imp λ h => by omega
def LzOk (d : PyData) : Prop := (∃ z t n u,d = .tuple [.str z,.int t,.int n,.int u]) /\ okD 1 d = true /\ big d <= 7000
structure OkS (S : Mst) : Prop where
  asc : (S.L.map Mc.num).Pairwise (· < ·)
  len : S.L.length <= 6
  ok : ∀ c ∈ S.L,OkC c
  life : 0 <= S.life /\ S.life <= 1000000
  sheet : 0 <= S.sheet /\ S.sheet <= 10000000
  down : S.up = false -> S.L = [] /\ S.lz = []
  lz : ∀ d ∈ S.lz,LzOk d
  lzl : S.lz.length <= 4
theorem p100 : (2 : Nat) ^ 100 > 1000000000 := by decide
theorem int_ok {k : Nat} {i : Int} (h0 : 0 <= i) (h1 : i <= 100000000) : okD k (.int i) = true := by
  have := p100
  cases k <;> simp only [okD,decide_eq_true_eq] <;> omega
theorem st_asc {c : Mc} (h : OkC c) : ascB c.st = true := by
  rcases h.st with h | h | h <;> rw [h.1] <;> decide +kernel
theorem told_ok {L : List Mc} (h : ∀ c ∈ L,OkC c) : okD 2 (.list (L.map toldD)) = true := by
  simp only [okD]
  refine okA_of λ d hd => ?_
  obtain ⟨c,hc,rfl⟩ := List.mem_map.mp hd
  have oc := h c hc
  have hn := oc.num
  have he := oc.ed
  simp only [toldD,okD,okA,oc.wa.1,oc.ka.1,st_asc oc,Bool.and_true,Bool.true_and]
  have := p100
  simp only [Bool.and_eq_true,decide_eq_true_eq]
  omega
theorem beat_ok {nm : Str} {S : Mst} {turn : Int} (hn : ascB nm = true) (o : OkS S) (t0 : 0 <= turn) (t1 : turn <= 100000000) : okD 3 (beatD nm S turn) = true := by
  unfold beatD
  have hlife := o.life
  have hsheet := o.sheet
  have := p100
  split
  · have hr : okA 1 (S.L.map beatR) = true := okA_of λ d hd => by
      obtain ⟨c,hc,rfl⟩ := List.mem_map.mp hd
      have oc := (o.ok c hc).num
      simp only [beatR,okD,okA,Bool.and_true,decide_eq_true_eq]
      omega
    simp only [okD,okA,hn,hr,Bool.and_true,Bool.true_and,Bool.and_eq_true,decide_eq_true_eq]
    omega
  · rfl
def kinds6 : List Str := ["front", "back", "side", "zzzzzzzz", "x", "kind"]
def wishes4 : List Str := ["web", "db", "web", "a"]
theorem kinds_asc : ∀ z ∈ kinds6,ascB z = true /\ z.length <= 8 := by decide +kernel
theorem wishes_asc : ∀ z ∈ wishes4,ascB z = true /\ z.length <= 8 := by decide +kernel
def sp_l_copy_row : SpD := λ ws M Q => ∃ p n,ws = [.m p,.d (.int n)] /\ Bag M p /\ 0 <= n /\ n <= 1000 /\ ∀ r M',r.num = n -> OkC r -> newC r = r -> Bag M' p -> (∀ q,q ≠ p -> M' q = M q) -> Q (.d (rowD r)) M'
theorem len_l_copy_row : ∀ ws M Q,sp_l_copy_row ws M Q -> ws.length = 2 := by rintro ws M Q ⟨p,n,rfl,_⟩; rfl
theorem read_l_copy_row : ∀ ws M Q,sp_l_copy_row ws M Q -> t_l_copy_row sp_l_take { nx := λ _ M' => Q (.d .none) M',rt := Q } (startD N_l_copy_row ws) M := by
  rintro ws M Q ⟨p,n,rfl,hb,n0,n1,k⟩
  have m6 : 0 <= n % 6 /\ n % 6 < 6 := ⟨Int.emod_nonneg _ (by decide),Int.emod_lt_of_pos _ (by decide)⟩
  have m4 : 0 <= n % 4 /\ n % 4 < 4 := ⟨Int.emod_nonneg _ (by decide),Int.emod_lt_of_pos _ (by decide)⟩
  obtain ⟨kd,e1,h1⟩ := ix_str_in (M := M) (zs := kinds6) (r := n % 6) m6.1 m6.2
  obtain ⟨wi,e2,h2⟩ := ix_str_in (M := M) (zs := wishes4) (r := n % 4) m4.1 m4.2
  refine ⟨_,rfl,few (by simp),_,rfl,_,_,rfl,rfl,(by show (0 : Int) < 6; decide),_,_,rfl,e1,rfl,?_⟩
  refine ⟨_,rfl,few (by simp),_,rfl,_,_,rfl,rfl,(by show (0 : Int) < 4; decide),_,_,rfl,e2,rfl,?_⟩
  refine ⟨_,rfl,_,rfl,_,rfl,_,rfl,p,3,rfl,hb,by decide,by decide,λ r1 M1 a1 a2 b1 f1 => .inl ⟨_,_,rfl,rfl,?_⟩⟩
  refine ⟨_,rfl,p,3,rfl,b1,by decide,by decide,λ r2 M2 a3 a4 b2 f2 => ?_⟩
  refine ⟨_,rfl,p,3,rfl,b2,by decide,by decide,λ r3 M3 a5 a6 b3 f3 => .inl ⟨_,_,rfl,rfl,_,rfl,few (by simp),?_⟩⟩
  refine k ⟨n,wi,kd,1 + r1,r2,1 + r3, "starting",r2⟩ M3 rfl ⟨.inl ⟨rfl,a3⟩,⟨n0,n1⟩,⟨by show 0 <= 1 + r1; omega,by show 1 + r1 <= 1000; omega⟩,⟨a3,by show r2 <= 1000; omega⟩,wishes_asc wi h2,kinds_asc kd h1⟩ rfl b3 λ q hq => ?_
  rw [f3 q hq,f2 q hq,f1 q hq]
theorem cut_upto {α : Type} {xs : List α} {t : Int} (h : 0 <= t) : _root_.D.cutD xs none (some t) = xs.take t.toNat := by
  unfold _root_.D.cutD
  have e : HT.sIx xs.length 0 none = 0 := rfl
  have e2 : HT.sIx xs.length xs.length (some t) = min t.toNat xs.length := by
    unfold HT.sIx
    dsimp only
    rw [if_neg (by omega)]
  rw [e,e2]
  simp only [List.drop_zero,Nat.sub_zero]
  by_cases q : t.toNat <= xs.length
  · rw [Nat.min_eq_left q]
  · rw [Nat.min_eq_right (by omega),List.take_length,List.take_of_length_le (by omega)]
structure OkRows (rows : List Mc) : Prop where
  asc : (rows.map Mc.num).Pairwise (· < ·)
  len : rows.length <= 6
  ok : ∀ r ∈ rows,OkC r /\ newC r = r
theorem lt_of_le_nd {ns : List Int} (h : ns.Pairwise (· <= ·)) (nd : ns.Nodup) : ns.Pairwise (· < ·) := by
  rw [List.nodup_iff_pairwise_ne] at nd
  exact (h.and nd).imp λ ⟨a,b⟩ => by omega
def sp_l_sheet : SpD := λ ws M Q => ∃ p life turn most,ws = [.m p,.d (.int life),.d (.int turn),.d (.int most)] /\ Bag M p /\ 0 <= most /\ most <= 6 /\ 0 <= turn /\ turn <= 1000000 /\
  ∀ rows lz M',OkRows rows -> (rows.length : Int) <= most -> (lz.length <= 4 /\ ∀ d ∈ lz,LzOk d) -> Bag M' p -> Fr M M' [p] -> Q (.d (sheetD life turn rows lz)) M'
theorem len_l_sheet : ∀ ws M Q,sp_l_sheet ws M Q -> ws.length = 4 := by rintro ws M Q ⟨p,life,turn,most,rfl,_⟩; rfl
def stores4 : List Str := ["s", "t", "log", "u"]
theorem stores_asc : ∀ z ∈ stores4,ascB z = true /\ z.length <= 8 := by decide +kernel
theorem read_l_sheet : ∀ ws M Q,sp_l_sheet ws M Q -> t_l_sheet sp_l_take sp_l_copy_row { nx := λ _ M' => Q (.d .none) M',rt := Q } (startD N_l_sheet ws) M := by
  rintro ws M Q ⟨p,life,turn,most,rfl,hb,m0,m6,t0,t1,k⟩
  have s16' := s16
  refine ⟨1,7,rfl,⟨by decide,by decide,by decide,by decide⟩,?_⟩
  refine ⟨λ i acc τ M' => i <= 6 /\ (∃ ns : List Int,acc = ns.map PyData.int /\ ns.length <= i /\ ns.Nodup /\ ∀ n ∈ ns,1 <= n /\ n <= 12 /\ (n - 1) % 6 < (i : Int)) /\ Bag M' p /\ (∀ q,q ≠ p -> M' q = M q) /\ ∃ x,τ = [x,some (.m p)],⟨by decide,⟨[],rfl,by decide,List.nodup_nil,by simp⟩,hb,λ _ _ => rfl,_,rfl⟩,?_,?_⟩
  · rintro i w acc τ M' hw ⟨hi6,⟨ns,rfl,hl,nd,hn⟩,b1,f1,x,rfl⟩
    obtain ⟨hi,rfl⟩ := rng_at hw
    have hi' : i < 6 := hi
    refine ⟨by rw [List.length_map]; omega,_,rfl,p,2,rfl,b1,by decide,by decide,λ r1 M1 a1 a2 b2 f2 => ⟨_,_,.d,.d,rfl,_,rfl,?_⟩⟩
    rw [eqv_int']
    by_cases h0 : r1 = 0
    · refine ite_y (decide_eq_true h0) ?_
      refine ⟨_,rfl,_,rfl,p,2,rfl,b2,by decide,by decide,λ r2 M2 a3 a4 b3 f3 => ⟨_,_,rfl,rfl,.inl ⟨by decide,by decide⟩,.inl ⟨_,_,rfl,rfl,_,rfl,?_⟩⟩⟩
      refine ⟨by omega,⟨ns ++ [1 + (i : Int) + 6 * r2],by rw [List.map_append]; rfl,by rw [List.length_append]; simp; omega,?_,λ n h => ?_⟩,b3,λ q hq => by rw [f3 q hq,f2 q hq,f1 q hq],_,rfl⟩
      · rw [List.nodup_append]
        refine ⟨nd,by simp,λ a ha b hb => ?_⟩
        have : b = 1 + (i : Int) + 6 * r2 := by simpa using hb
        have h3 := (hn a ha).2.2
        intro y
        rw [y,this] at h3
        omega
      · rcases List.mem_append.mp h with h | h
        · have := hn n h; omega
        · have : n = 1 + (i : Int) + 6 * r2 := by simpa using h
          omega
    · refine ite_n (decide_eq_false h0) ?_
      exact ⟨by omega,⟨ns,rfl,by omega,nd,λ n h => by have := hn n h; omega⟩,b2,λ q hq => by rw [f2 q hq,f1 q hq],_,rfl⟩
  · rintro acc τ M1 ⟨_,⟨ns,rfl,hl,nd,hn⟩,b1,f1,x,rfl⟩
    have hl6 : ns.length <= 6 := hl
    refine ⟨_,rfl,_,ns,rfl,.d,by omega,λ ns' hp hs g hg => ⟨g,ns'.map PyData.int,rfl,by rw [updM_same,Stc.ints_map],?_⟩⟩
    have x1 := sealed (o := .lst (intsW ns')) hg
    have b2 := x1.bag b1
    have F1 : Fr M (delM (updM M1 g (.lst (intsW ns'))) g) [p] := ((Fr.of_eq f1).trans (Fr.of_ext x1 [])).mono (by simp)
    generalize delM (updM M1 g (.lst (intsW ns'))) g = M2 at b2 F1
    have nd' : ns'.Nodup := hp.nodup_iff.mpr nd
    have asc' := lt_of_le_nd hs nd'
    refine ⟨_,rfl,_,rfl,_,rfl,rfl,_,rfl,?_⟩
    rw [cut_upto m0,<- List.map_take]
    have ascT : (ns'.take most.toNat).Pairwise (· < ·) := asc'.sublist (List.take_sublist _ _)
    have lenT : ((ns'.take most.toNat).length : Int) <= most /\ (ns'.take most.toNat).length <= 6 := by
      rw [List.length_take]
      have := hp.length_eq
      omega
    have memT : ∀ n ∈ ns'.take most.toNat,1 <= n /\ n <= 12 := λ n h => by
      have := hn n (hp.mem_iff.mp (List.mem_of_mem_take h))
      omega
    generalize ns'.take most.toNat = us at ascT lenT memT
    refine ⟨λ i acc τ M' => i <= us.length /\ (∃ rs : List Mc,acc = rs.map rowD /\ rs.map Mc.num = us.take i /\ ∀ r ∈ rs,OkC r /\ newC r = r) /\ Bag M' p /\ Fr M M' [p] /\ ∃ x,τ = [x,some (.m p)],⟨Nat.zero_le _,⟨[],rfl,rfl,by simp⟩,b2,F1,_,rfl⟩,?_,?_⟩
    · rintro i w acc τ M' hw ⟨hi,⟨rs,rfl,hr,ho⟩,b3,F3,x,rfl⟩
      obtain ⟨w',hw',rfl⟩ := map_at hw
      obtain ⟨n,hn',rfl⟩ := map_at hw'
      have hlt := (List.getElem?_eq_some_iff.mp hn').1
      have hm := memT n (List.mem_of_getElem? hn')
      have hrl : rs.length = i := by
        have := congrArg List.length hr
        rw [List.length_map,List.length_take] at this
        omega
      dsimp only [dYes,gN]
      refine ⟨by rw [List.length_map]; omega,?_⟩
      rw [if_pos rfl]
      refine ⟨_,rfl,_,rfl,p,n,rfl,b3,by omega,by omega,λ r M4 e1 e2 e3 b4 f4 => ⟨_,rfl,hlt,⟨rs ++ [r],by rw [List.map_append]; rfl,?_,λ y hy => ?_⟩,b4,(F3.trans (Fr.of_eq f4)).mono (by simp),_,rfl⟩⟩
      · rw [List.map_append,hr,List.take_succ,hn']
        simp [e1]
      · rcases List.mem_append.mp hy with h | h
        · exact ho y h
        · have : y = r := by simpa using h
          subst this
          exact ⟨e2,e3⟩
    · rintro acc τ M3 ⟨_,⟨rs,rfl,hr,ho⟩,b3,F3,x,rfl⟩
      rw [show ((us.map PyData.int).map W.d).length = us.length from by simp,List.take_length] at hr
      have hrl : rs.length = us.length := by have := congrArg List.length hr; rw [List.length_map] at this; exact this
      have okR : OkRows rs := ⟨by rw [hr]; exact ascT,by omega,ho⟩
      refine ⟨_,rfl,_,rfl,?_⟩
      rw [show (rs.map rowD).map W.d = rs.map (W.d ∘ rowD) from List.map_map]
      refine lc_rows rs (W.d ∘ rowD) (λ r => .int r.num) (λ τ => ∃ x,τ = [x]) (by omega) ⟨_,rfl⟩ (λ r hr' τ hτ R h => ?_) (λ τ => ?_)
      · obtain ⟨x,rfl⟩ := hτ
        exact ⟨_,rfl,_,_,rfl,rfl,rfl,_,rfl,h _ ⟨_,rfl⟩⟩
      · refine ⟨_,rfl,few (by simp),_,_,.d,.d,by rw [List.length_map]; simp; omega,_,rfl,_,rfl,rfl,?_⟩
        have e20 : _root_.D.cutD (rs.map (λ r => PyData.int r.num) ++ [PyData.int 20]) none (some 3) = ((us ++ [20]).take 3).map PyData.int := by
          rw [cut_upto (by decide),<- hr]
          simp [List.map_take]
          rfl
        rw [e20]
        have v1 : 1 <= ((us ++ [20]).take 3).length /\ ((us ++ [20]).take 3).length <= 3 := by
          rw [List.length_take,List.length_append]
          simp
          omega
        have v2 : ∀ n ∈ (us ++ [20]).take 3,0 <= n /\ n <= 20 := λ n h => by
          rcases List.mem_append.mp (List.mem_of_mem_take h) with h | h
          · have := memT n h; omega
          · have : n = 20 := by simpa using h
            omega
        generalize (us ++ [20]).take 3 = vs at v1 v2
        refine ⟨few (by simp),λ f hf => ?_⟩
        have fp : f ≠ p := λ y => by
          obtain ⟨a,b,c,ns,h1,_⟩ := b3
          rw [y,h1] at hf; cases hf
        have hfM : M f = none := by
          cases e : M f with
          | none => rfl
          | some o => rw [F3 f o e (by simpa using fp)] at hf; cases hf
        have b4 : Bag (updM M3 f (.lst [])) p := bag_keep b3 (updM_ne fp.symm)
        refine ⟨_,rfl,p,5,rfl,b4,by decide,by decide,λ r M4 a1 a2 b5 f5 => ⟨r,rfl,by omega,by omega,?_⟩⟩
        refine ⟨λ i τ M' => i <= 4 /\ Bag M' p /\ Fr M M' [p] /\ (∃ ts : List (List PyData),M' f = some (.lst (tupsW ts)) /\ ts.length <= i /\ ∀ t ∈ ts,S.Shape [true,false,false,false] t /\ okD 1 (.tuple t) = true /\ big (.tuple t) <= 7000) /\ ∃ x8 x9,τ = [some (.m p),some (.d (.int life)),some (.d (.int turn)),some (.d (.int most)),some (.d (.list (ns.map PyData.int))),some (.d (.list (rs.map rowD))),some (.d (.list (vs.map PyData.int))),some (.m f),x8,x9],
          ⟨by decide,b5,?_,⟨[],by rw [f5 f fp,updM_same]; rfl,by decide,by simp⟩,_,_,rfl⟩,?_,?_⟩
        · intro q o h n
          have n2 : q ≠ p := by simpa using n
          rw [f5 q n2,updM_ne (ne_new h hfM)]
          exact F3 q o h n
        · rintro i w τ M5 hw ⟨hi,b6,F6,⟨ts,hts,hlt,hok⟩,x8,x9,rfl⟩
          obtain ⟨hi4,rfl⟩ := rng0_at hw
          have i4 : i < 4 := by omega
          refine ⟨_,rfl,_,rfl,_,rfl,_,_,rfl,rfl,rfl,p,_,rfl,b6,by rw [List.length_map]; omega,by rw [List.length_map]; omega,λ r2 M6 c1 c2 b7 f7 => ?_⟩
          rw [List.length_map] at c2
          obtain ⟨nu,e1,e2⟩ := ix_int_at (M := M6) (ns := vs) (r := r2) c1 (by omega)
          have nub := v2 nu e2
          have hts6 : M6 f = some (.lst (tupsW ts)) := by rw [f7 f fp]; exact hts
          obtain ⟨sn,e3,e4⟩ := ix_str_in (M := M6) (zs := stores4) (r := (i : Int)) (by omega) (by show (i : Int) < 4; omega)
          refine ⟨_,_,rfl,e1,rfl,?_⟩
          refine ⟨_,rfl,f,_,rfl,hts6,_,rfl,few (by simp),_,rfl,_,_,rfl,e3,rfl,_,rfl,p,9,rfl,b7,by decide,by decide,λ r3 M7 d1 d2 b8 f8 => .inl ⟨_,_,rfl,rfl,?_⟩⟩
          refine ⟨_,rfl,_,rfl,_,rfl,p,9,rfl,b8,by decide,by decide,λ r4 M8 d3 d4 b9 f9 => .inl ⟨_,_,rfl,rfl,_,rfl,few (by simp),?_⟩⟩
          have hts8 : M8 f = some (.lst (tupsW ts)) := by rw [f9 f fp,f8 f fp]; exact hts6
          refine ⟨_,hts8,by unfold tupsW; rw [List.length_map]; omega,?_⟩
          refine ⟨by omega,bag_keep b9 (updM_ne fp.symm),?_,⟨ts ++ [[.str sn,.int (1 + r3),.int nu,.int (turn + r4)]],?_,by rw [List.length_append]; simp; omega,λ t ht => ?_⟩,_,_,rfl⟩
          · intro q o h n
            have n2 : q ≠ p := by simpa using n
            rw [updM_ne (ne_new h hfM),f9 q n2,f8 q n2,f7 q n2]
            exact F6 q o h n
          · rw [updM_same]
            unfold tupsW
            rw [List.map_append]
            rfl
          · rcases List.mem_append.mp ht with h | h
            · exact hok t h
            · have : t = [.str sn,.int (1 + r3),.int nu,.int (turn + r4)] := by simpa using h
              subst this
              have hsn := stores_asc sn e4
              refine ⟨⟨⟨_,rfl⟩,⟨_,rfl⟩,⟨_,rfl⟩,⟨_,rfl⟩,trivial⟩,?_,?_⟩
              · have := p100
                simp only [okD,okA,hsn.1,Bool.and_true,Bool.true_and,Bool.and_eq_true,decide_eq_true_eq]
                omega
              · simp only [big,bigA]
                omega
        · rintro τ M5 ⟨hi,b6,F6,⟨ts,hts,hlt,hok⟩,x8,x9,rfl⟩
          have hl4 : ts.length <= 4 := by
            have := hlt
            simp [rangeW] at this
            omega
          refine ⟨_,rfl,_,rfl,_,rfl,_,rfl,_,ts,true,[false,false,false],rfl,.m (by rw [hts]; unfold tupsW; rw [List.map_map]; rfl),λ t ht => (hok t ht).1,by omega,λ rows' hp' g hg => ?_⟩
          have x6 := sealed (o := .lst (tupsW rows')) hg
          refine ⟨g,rows'.map PyData.tuple,rfl,by rw [updM_same]; unfold tupsW; rw [List.map_map]; rfl,_,rfl,few (by simp),?_⟩
          refine k rs (rows'.map PyData.tuple) _ okR (by omega) ⟨by rw [List.length_map,hp'.length_eq]; exact hl4,λ d hd => ?_⟩ (x6.bag b6) ((F6.trans (Fr.of_ext x6 [])).mono (by simp))
          obtain ⟨t,ht,rfl⟩ := List.mem_map.mp hd
          obtain ⟨h1,h2⟩ := hok t (hp'.mem_iff.mp ht)
          refine ⟨?_,h2⟩
          match t,h1 with
          | [_,_,_,_],⟨⟨z,e1⟩,⟨t',e2⟩,⟨n,e3⟩,⟨u,e4⟩,_⟩ => exact ⟨z,t',n,u,by rw [e1,e2,e3,e4]⟩
theorem ok0 : OkS st0 := ⟨.nil,by decide,by simp [st0],⟨by decide,by decide⟩,⟨by decide,by decide⟩,λ _ => ⟨rfl,rfl⟩,by simp [st0],by decide⟩
theorem OkC.go {c : Mc} (h : OkC c) : OkC (goC c) := by
  unfold goC
  have h3 := h.start
  by_cases h1 : c.st = "failed"
  · rw [if_pos h1]
    exact ⟨.inl ⟨rfl,h3.1⟩,h.num,h.ed,h.start,h.wa,h.ka⟩
  · rw [if_neg h1]
    by_cases h2 : c.st = "starting" /\ 0 < c.left
    · rw [if_pos h2]
      exact ⟨.inl ⟨h2.1,by show 0 <= c.left - 1; omega⟩,h.num,h.ed,h.start,h.wa,h.ka⟩
    · rw [if_neg h2]
      exact ⟨.inr (.inl ⟨rfl,rfl⟩),h.num,h.ed,h.start,h.wa,h.ka⟩
theorem OkS.go {S : Mst} (h : OkS S) : OkS { S with L := S.L.map goC } := by
  refine ⟨?_,by show (S.L.map goC).length <= 6; rw [List.length_map]; exact h.len,λ c hc => ?_,h.life,h.sheet,λ q => ?_,h.lz,h.lzl⟩
  · show ((S.L.map goC).map Mc.num).Pairwise (· < ·)
    rw [List.map_map,show (Mc.num ∘ goC) = Mc.num from funext goC_num]
    exact h.asc
  · obtain ⟨c',h',rfl⟩ := List.mem_map.mp hc
    exact (h.ok c' h').go
  · obtain ⟨h1,h2⟩ := h.down q
    exact ⟨by show S.L.map goC = []; rw [h1]; rfl,h2⟩
theorem OkS.fail {S : Mst} (h : OkS S) (n : Int) : OkS { S with L := failL S.L n } := by
  have hnum : ∀ c : Mc,(if c.num = n then (if isA c = true then failC c else c) else c).num = c.num := λ c => by
    by_cases hq : c.num = n
    · rw [if_pos hq]; exact failC_num c
    · rw [if_neg hq]
  refine ⟨?_,by show (failL S.L n).length <= 6; unfold failL up1; rw [List.length_map]; exact h.len,λ c hc => ?_,h.life,h.sheet,λ q => ?_,h.lz,h.lzl⟩
  · show ((failL S.L n).map Mc.num).Pairwise (· < ·)
    unfold failL up1
    rw [List.map_map,show (Mc.num ∘ λ c => if c.num = n then (if isA c = true then failC c else c) else c) = Mc.num from funext hnum]
    exact h.asc
  · obtain ⟨c',h',rfl⟩ := List.mem_map.mp hc
    have o := h.ok c' h'
    by_cases h1 : c'.num = n
    · rw [if_pos h1]
      dsimp only
      by_cases h2 : isA c' = true
      · rw [if_pos h2]
        exact ⟨.inr (.inr ⟨rfl,rfl⟩),o.num,o.ed,o.start,o.wa,o.ka⟩
      · rw [if_neg h2]; exact o
    · rw [if_neg h1]; exact o
  · obtain ⟨h1,h2⟩ := h.down q
    exact ⟨by show failL S.L n = []; rw [h1]; rfl,h2⟩
theorem takeL_num (L rows : List Mc) : (takeL L rows).map Mc.num = rows.map Mc.num := by
  unfold takeL
  rw [List.map_map,show (Mc.num ∘ λ r => (fi L r.num).getD r) = Mc.num from funext λ r => getD_num]
theorem OkS.take {S : Mst} (h : OkS S) {rows : List Mc} {lz : List PyData} {life turn : Int} (hr : OkRows rows) (hz : lz.length <= 4 /\ ∀ d ∈ lz,LzOk d) (hk : okT S life turn = true) (t0 : 0 <= turn) (t1 : turn <= 10000000) : OkS { S with sheet := turn,L := takeL S.L rows,lz := lz } := by
  refine ⟨by show ((takeL S.L rows).map Mc.num).Pairwise (· < ·); rw [takeL_num]; exact hr.asc,by show (takeL S.L rows).length <= 6; unfold takeL; rw [List.length_map]; exact hr.len,λ c hc => ?_,h.life,⟨t0,t1⟩,λ q => ?_,hz.2,hz.1⟩
  · obtain ⟨r,hr',rfl⟩ := List.mem_map.mp hc
    cases q : fi S.L r.num with
    | none => exact (hr.ok r hr').1
    | some c => exact h.ok c (fi_mem q).1
  · have q' : S.up = false := q
    unfold okT at hk
    rw [q'] at hk
    cases hk
theorem OkS.rise {S : Mst} (h : OkS S) (hl : S.life <= 999999) : OkS (riseS S) := by
  unfold riseS
  by_cases q : S.up = true
  · rw [if_pos q]; exact h
  · rw [if_neg q]
    have h1 := h.life
    exact ⟨h.asc,h.len,h.ok,⟨by show 0 <= S.life + 1; omega,by show S.life + 1 <= 1000000; omega⟩,⟨by show (0 : Int) <= 0; decide,by show (0 : Int) <= 10000000; decide⟩,(λ y => nomatch y),h.lz,h.lzl⟩
theorem OkS.fall {S : Mst} (h : OkS S) : OkS { S with up := false,L := [],lz := [] } := ⟨.nil,by show (0 : Nat) <= 6; decide,by simp,h.life,h.sheet,λ _ => ⟨rfl,rfl⟩,by simp,by show (0 : Nat) <= 4; decide⟩
def leaseV (L : List Mc) (store : Str) (turn : Int) : List PyData -> PyData
  | [] => .none
  | .tuple [.str z,.int t,.int n,.int u] :: r => if z = store /\ turn < u /\ ansL L n = true then .tuple [.int n,.int t] else leaseV L store turn r
  | _ :: r => leaseV L store turn r
theorem leaseV_cons {L : List Mc} {store z : Str} {turn t n u : Int} {r : List PyData} : leaseV L store turn (.tuple [.str z,.int t,.int n,.int u] :: r) = if z = store /\ turn < u /\ ansL L n = true then .tuple [.int n,.int t] else leaseV L store turn r := by rw [leaseV]
theorem lk_known {nm : Str} {room : Int} {S : Mst} {d : Addr} : (flm nm room S d).lookup ("known_leases" : Str) = some (.d (.list S.lz)) := rfl
theorem lk_count {nm : Str} {room : Int} {S : Mst} {d : Addr} : (flm nm room S d).lookup ("berth_count" : Str) = some (.d (.int room)) := rfl
def sp_Machine_leases : SpD := λ ws M Q => ∃ s d nm room S,ws = [.m s] /\ Pm M s d nm room S /\ ∀ M',Ext M M' -> Q (.d (.list S.lz)) M'
theorem len_Machine_leases : ∀ ws M Q,sp_Machine_leases ws M Q -> ws.length = 1 := by rintro ws M Q ⟨s,d,nm,room,S,rfl,_⟩; rfl
theorem read_Machine_leases : ∀ ws M Q,sp_Machine_leases ws M Q -> t_Machine_leases { nx := λ _ M' => Q (.d .none) M',rt := Q } (startD N_Machine_leases ws) M := by
  rintro ws M Q ⟨s,d,nm,room,S,rfl,H,k⟩
  exact ⟨_,rfl,s,_,_,rfl,H.hs,lk_known,_,_,rfl,.l,λ p hp => ⟨p,S.lz,rfl,updM_same,k _ (sealed hp)⟩⟩
def sp_Machine_life : SpD := λ ws M Q => ∃ s d nm room S,ws = [.m s] /\ Pm M s d nm room S /\ Q (.d (.int S.life)) M
theorem len_Machine_life : ∀ ws M Q,sp_Machine_life ws M Q -> ws.length = 1 := by rintro ws M Q ⟨s,d,nm,room,S,rfl,_⟩; rfl
theorem read_Machine_life : ∀ ws M Q,sp_Machine_life ws M Q -> t_Machine_life { nx := λ _ M' => Q (.d .none) M',rt := Q } (startD N_Machine_life ws) M := by
  rintro ws M Q ⟨s,d,nm,room,S,rfl,H,k⟩
  exact ⟨_,rfl,s,_,_,rfl,H.hs,lk_lives,k⟩
def sp_Machine_stands : SpD := λ ws M Q => ∃ s d nm room S,ws = [.m s] /\ Pm M s d nm room S /\ Q (.d (.bool S.up)) M
theorem len_Machine_stands : ∀ ws M Q,sp_Machine_stands ws M Q -> ws.length = 1 := by rintro ws M Q ⟨s,d,nm,room,S,rfl,_⟩; rfl
theorem read_Machine_stands : ∀ ws M Q,sp_Machine_stands ws M Q -> t_Machine_stands { nx := λ _ M' => Q (.d .none) M',rt := Q } (startD N_Machine_stands ws) M := by
  rintro ws M Q ⟨s,d,nm,room,S,rfl,H,k⟩
  exact ⟨_,rfl,s,_,_,rfl,H.hs,lk_standing,k⟩
def sp_Machine_lease_at : SpD := λ ws M Q => ∃ s d nm room S store turn,ws = [.m s,.d (.str store),.d (.int turn)] /\ Pm M s d nm room S /\ (∀ x ∈ S.lz,LzOk x) /\ Q (.d (leaseV S.L store turn S.lz)) M
theorem len_Machine_lease_at : ∀ ws M Q,sp_Machine_lease_at ws M Q -> ws.length = 3 := by rintro ws M Q ⟨s,d,nm,room,S,store,turn,rfl,_⟩; rfl
theorem drop_cons {α : Type} {L : List α} {i : Nat} {a : α} (h : L[i]? = some a) : L.drop i = a :: L.drop (i + 1) := by
  obtain ⟨hi,e⟩ := List.getElem?_eq_some_iff.mp h
  rw [List.drop_eq_getElem_cons hi,e]
theorem read_Machine_lease_at : ∀ ws M Q,sp_Machine_lease_at ws M Q -> t_Machine_lease_at sp_Machine_answers { nx := λ _ M' => Q (.d .none) M',rt := Q } (startD N_Machine_lease_at ws) M := by
  rintro ws M Q ⟨s,d,nm,room,S,store,turn,rfl,H,hz,k⟩
  refine ⟨_,rfl,s,_,_,rfl,H.hs,lk_known,_,rfl,?_⟩
  dsimp only
  refine ⟨λ i τ M' => M' = M /\ leaseV S.L store turn (S.lz.drop i) = leaseV S.L store turn S.lz /\ ∃ x3 x4 x5 x6,τ = [some (.m s),some (.d (.str store)),some (.d (.int turn)),x3,x4,x5,x6],⟨rfl,rfl,_,_,_,_,rfl⟩,?_,?_⟩
  · rintro i w τ M' hw ⟨rfl,he,x3,x4,x5,x6,rfl⟩
    obtain ⟨dl,hd,rfl⟩ := map_at hw
    obtain ⟨⟨z,t,n,u,rfl⟩,_⟩ := hz dl (List.mem_of_getElem? hd)
    rw [drop_cons hd,leaseV_cons] at he
    refine ⟨_,rfl,rfl,_,_,rfl,_,_,rfl,_,_,rfl,_,_,rfl,rfl,?_⟩
    refine ⟨_,rfl,_,rfl,_,_,.d,.d,rfl,_,rfl,?_⟩
    rw [eqv_str']
    by_cases h1 : z = store
    · refine ite_y (decide_eq_true h1) ⟨_,rfl,_,rfl,_,_,rfl,rfl,_,rfl,?_⟩
      by_cases h2 : turn < u
      · refine ite_y (decide_eq_true h2) ⟨_,rfl,s,_,rfl,H.hs,lk_ans,_,rfl,s,d,_,_,S,n,rfl,H,_,rfl,?_⟩
        by_cases h3 : ansL S.L n = true
        · rw [if_pos ⟨h1,h2,h3⟩] at he
          rw [<- he] at k
          exact ite_y h3 ⟨_,rfl,_,rfl,_,rfl,few (by simp),k⟩
        · rw [if_neg (λ y => h3 y.2.2)] at he
          exact ite_n (by simpa using h3) ⟨rfl,he,_,_,_,_,rfl⟩
      · rw [if_neg (λ y => h2 y.2.1)] at he
        exact ite_n (decide_eq_false h2) (iteF ⟨rfl,he,_,_,_,_,rfl⟩)
    · rw [if_neg (λ y => h1 y.1)] at he
      exact ite_n (decide_eq_false h1) (iteF ⟨rfl,he,_,_,_,_,rfl⟩)
  · rintro τ M' ⟨rfl,he,x3,x4,x5,x6,rfl⟩
    rw [show (S.lz.map W.d).length = S.lz.length from by simp,List.drop_length] at he
    rw [<- he] at k
    exact k
def sp_Machine_copied : SpD := λ ws M Q => ∃ s d nm room S,ws = [.m s] /\ Pm M s d nm room S /\ ∀ s' d' M',M s' = none -> M d' = none -> Pm M' s' d' nm room S -> Ext M M' -> Q (.m s') M'
theorem len_Machine_copied : ∀ ws M Q,sp_Machine_copied ws M Q -> ws.length = 1 := by rintro ws M Q ⟨s,d,nm,room,S,rfl,_⟩; rfl
theorem read_Machine_copied : ∀ ws M Q,sp_Machine_copied ws M Q -> t_Machine_copied sp_Machine_init { nx := λ _ M' => Q (.d .none) M',rt := Q } (startD N_Machine_copied ws) M := by
  rintro ws M Q ⟨s,d,nm,room,S,rfl,H,k⟩
  have c7 : (7 : Nat) < 1000 := by decide
  refine ⟨_,rfl,s,_,_,rfl,H.hs,lk_name,_,rfl,s,_,_,rfl,H.hs,lk_count,λ t ht => ⟨t,nm,room,rfl,updM_same,λ d0 M1 hd0 P1 F1 => ⟨rfl,?_⟩⟩⟩
  have x1 : Ext M M1 := λ q o e => F1 q o (by rw [updM_ne (ne_new e ht)]; exact e) (by simpa using ne_new e ht)
  have H1 : Pm M1 s d nm room S := H.keep (Fr.of_ext x1 []) (by simp) (by simp)
  have ts : s ≠ t := ne_new H.hs ht
  have td : d ≠ t := ne_new H.hd ht
  refine ⟨_,rfl,s,_,_,rfl,H1.hs,lk_standing,_,rfl,t,_,rfl,P1.hs,c7,?_⟩
  refine ⟨_,rfl,s,_,_,rfl,by rw [updM_ne ts]; exact H1.hs,lk_lives,_,rfl,t,_,rfl,updM_same,c7,?_⟩
  rw [updM_updM]
  refine ⟨_,rfl,s,_,_,rfl,by rw [updM_ne ts]; exact H1.hs,lk_sheet,_,rfl,t,_,rfl,updM_same,c7,?_⟩
  rw [updM_updM]
  have e3 : updM M1 t (.ins C_Machine (putW "sheet_turn" (.d (.int S.sheet)) (putW "lives" (.d (.int S.life)) (putW "standing" (.d (.bool S.up)) (flm nm room st0 d0))))) = updM M1 t (.ins C_Machine (flm nm room ⟨S.up,S.life,S.sheet,[],[]⟩ d0)) := rfl
  rw [e3]
  refine ⟨_,rfl,s,_,_,rfl,by rw [updM_ne ts]; exact H1.hs,lk_laid,d,_,rfl,by rw [updM_ne td]; exact H1.hd,λ d' hd' => ?_⟩
  have nt : d' ≠ t := λ y => by rw [y,updM_same] at hd'; cases hd'
  have hd1 : M1 d' = none := by rw [updM_ne nt] at hd'; exact hd'
  refine ⟨_,rfl,t,flm nm room ⟨S.up,S.life,S.sheet,[],[]⟩ d0,rfl,by rw [updM_ne nt.symm]; exact updM_same,c7,?_⟩
  have e4 : updM (updM (updM M1 t (.ins C_Machine (flm nm room ⟨S.up,S.life,S.sheet,[],[]⟩ d0))) d' (.dic (dataKV (ri S.L)))) t (.ins C_Machine (putW "laid" (.m d') (flm nm room ⟨S.up,S.life,S.sheet,[],[]⟩ d0))) = updM (updM (updM M1 t (.ins C_Machine (flm nm room ⟨S.up,S.life,S.sheet,[],[]⟩ d0))) d' (.dic (dataKV (ri S.L)))) t (.ins C_Machine (flm nm room ⟨S.up,S.life,S.sheet,[],[]⟩ d')) := rfl
  rw [e4]
  have h5 : updM (updM (updM M1 t (.ins C_Machine (flm nm room ⟨S.up,S.life,S.sheet,[],[]⟩ d0))) d' (.dic (dataKV (ri S.L)))) t (.ins C_Machine (flm nm room ⟨S.up,S.life,S.sheet,[],[]⟩ d')) t = some (.ins C_Machine (flm nm room ⟨S.up,S.life,S.sheet,[],[]⟩ d')) := updM_same
  have h6 : updM (updM (updM M1 t (.ins C_Machine (flm nm room ⟨S.up,S.life,S.sheet,[],[]⟩ d0))) d' (.dic (dataKV (ri S.L)))) t (.ins C_Machine (flm nm room ⟨S.up,S.life,S.sheet,[],[]⟩ d')) d' = some (.dic (dataKV (ri S.L))) := by rw [updM_ne nt,updM_same]
  have hdM : M d' = none := by
    cases e : M d' with
    | none => rfl
    | some o => rw [x1 d' o e] at hd1; cases hd1
  have x5 : Ext M (updM (updM (updM M1 t (.ins C_Machine (flm nm room ⟨S.up,S.life,S.sheet,[],[]⟩ d0))) d' (.dic (dataKV (ri S.L)))) t (.ins C_Machine (flm nm room ⟨S.up,S.life,S.sheet,[],[]⟩ d'))) := λ q o e => by
    rw [updM_ne (ne_new e ht),updM_ne (ne_new e hdM),updM_ne (ne_new e ht)]
    exact x1 q o e
  generalize updM (updM (updM M1 t (.ins C_Machine (flm nm room ⟨S.up,S.life,S.sheet,[],[]⟩ d0))) d' (.dic (dataKV (ri S.L)))) t (.ins C_Machine (flm nm room ⟨S.up,S.life,S.sheet,[],[]⟩ d')) = M5 at h5 h6 x5
  refine ⟨_,rfl,s,_,_,rfl,x5 _ _ H.hs,lk_known,_,_,rfl,.l,λ l hl => ?_⟩
  have x6 := sealed (o := .lst (S.lz.map W.d)) hl
  refine ⟨l,S.lz,rfl,updM_same,_,rfl,t,_,rfl,x6 _ _ h5,c7,?_⟩
  refine ⟨_,rfl,k t d' _ ht hdM ⟨by rw [updM_same]; rfl,by rw [updM_ne nt]; exact x6 _ _ h6⟩ ?_⟩
  intro q o e
  rw [updM_ne (ne_new e ht)]
  exact x6 q o (x5 q o e)
theorem lk_go_on {nm : Str} {room : Int} {S : Mst} {d : Addr} : (flm nm room S d).lookup ("go_on" : Str) = none := rfl
theorem lk_fail {nm : Str} {room : Int} {S : Mst} {d : Addr} : (flm nm room S d).lookup ("fail" : Str) = none := rfl
theorem lk_lying {nm : Str} {room : Int} {S : Mst} {d : Addr} : (flm nm room S d).lookup ("lying" : Str) = none := rfl
theorem lk_beat {nm : Str} {room : Int} {S : Mst} {d : Addr} : (flm nm room S d).lookup ("beat" : Str) = none := rfl
theorem lk_leases {nm : Str} {room : Int} {S : Mst} {d : Addr} : (flm nm room S d).lookup ("leases" : Str) = none := rfl
theorem lk_lease_at {nm : Str} {room : Int} {S : Mst} {d : Addr} : (flm nm room S d).lookup ("lease_at" : Str) = none := rfl
theorem lk_life {nm : Str} {room : Int} {S : Mst} {d : Addr} : (flm nm room S d).lookup ("life" : Str) = none := rfl
theorem lk_stands {nm : Str} {room : Int} {S : Mst} {d : Addr} : (flm nm room S d).lookup ("stands" : Str) = none := rfl
theorem lk_take {nm : Str} {room : Int} {S : Mst} {d : Addr} : (flm nm room S d).lookup ("take" : Str) = none := rfl
theorem lk_rise {nm : Str} {room : Int} {S : Mst} {d : Addr} : (flm nm room S d).lookup ("rise" : Str) = none := rfl
theorem lk_fall {nm : Str} {room : Int} {S : Mst} {d : Addr} : (flm nm room S d).lookup ("fall" : Str) = none := rfl
theorem lk_copied {nm : Str} {room : Int} {S : Mst} {d : Addr} : (flm nm room S d).lookup ("copied" : Str) = none := rfl
mutual
theorem ok_mono : ∀ (k : Nat) (d : PyData),okD k d = true -> okD (k + 1) d = true
  | _,.none,_ => rfl
  | _,.bool _,_ => rfl
  | k,.int i,h => by cases k <;> (simp only [okD] at h ⊢; exact h)
  | k,.str z,h => by cases k <;> (simp only [okD] at h ⊢; exact h)
  | k + 1,.list ds,h => by simp only [okD] at h ⊢; exact okA_mono k ds h
  | k + 1,.tuple ds,h => by simp only [okD] at h ⊢; exact okA_mono k ds h
  | 0,.list ds,h => by simp [okD] at h
  | 0,.tuple ds,h => by simp [okD] at h
  | k,.dict kvs,h => by cases k <;> simp [okD] at h
theorem okA_mono : ∀ (k : Nat) (ds : List PyData),okA k ds = true -> okA (k + 1) ds = true
  | _,[],_ => by simp [okA]
  | k,d :: ds,h => by
    simp only [okA,Bool.and_eq_true] at h ⊢
    exact ⟨ok_mono k d h.1,okA_mono k ds h.2⟩
end
theorem bigA_le {n : Nat} : ∀ {ds : List PyData},(∀ d ∈ ds,big d <= n) -> bigA ds <= (n + 2) * ds.length
  | [],_ => by simp [bigA]
  | d :: ds,h => by
    have h1 := h d (by simp)
    have h2 := bigA_le (n := n) (ds := ds) λ x hx => h x (by simp [hx])
    simp only [bigA,List.length_cons,Nat.mul_add]
    omega
theorem leaseV_ok {L : List Mc} {store : Str} {turn : Int} : ∀ {zs : List PyData},(∀ d ∈ zs,LzOk d) -> okD 1 (leaseV L store turn zs) = true /\ big (leaseV L store turn zs) <= 5000
  | [],_ => ⟨by simp [leaseV,okD],by simp [leaseV,big]⟩
  | d :: zs,h => by
    obtain ⟨⟨z,t,n,u,rfl⟩,h2,_⟩ := h d (by simp)
    rw [leaseV_cons]
    split
    · simp only [okD,okA,Bool.and_true,Bool.and_eq_true] at h2 ⊢
      exact ⟨⟨h2.2.2.1,h2.2.1⟩,by simp only [big,bigA]; omega⟩
    · exact leaseV_ok λ x hx => h x (by simp [hx])
def seenD (S : Mst) (turn : Int) : PyData := .list [.str "ma",.int 6,.int S.life,.bool S.up,.list (S.L.map toldD),.list S.lz,beatD "ma" S turn,.list (stores4.map λ z => leaseV S.L z turn S.lz)]
theorem told_big {c : Mc} (h : OkC c) : big (toldD c) <= 5000 := by
  have h1 := h.wa.2
  have h2 := h.ka.2
  have h3 : c.st.length <= 9 := by rcases h.st with h | h | h <;> rw [h.1] <;> decide +kernel
  simp only [toldD,big,bigA]
  omega
theorem beat_big {nm : Str} {S : Mst} {turn : Int} (hl : nm.length <= 8) (o : OkS S) : big (beatD nm S turn) <= 30000 := by
  unfold beatD
  split
  · have := bigA_le (n := 2020) (ds := S.L.map beatR) λ d hd => by
      obtain ⟨c,hc,rfl⟩ := List.mem_map.mp hd
      simp only [beatR,big,bigA]
      omega
    have h6 := o.len
    rw [List.length_map] at this
    simp only [big,bigA]
    omega
  · show (4 : Nat) <= 30000
    decide
theorem ma_ok : ascB "ma" = true /\ ("ma" : Str).length <= 8 := by decide +kernel
theorem seen_okD {S : Mst} {turn : Int} (o : OkS S) (t0 : 0 <= turn) (t1 : turn <= 100000000) : okD 4 (seenD S turn) = true := by
  have h1 := ok_mono _ _ (told_ok o.ok)
  have h2 : okD 3 (.list S.lz) = true := by
    simp only [okD]
    exact okA_of λ d hd => ok_mono _ _ (o.lz d hd).2.1
  have h3 := beat_ok ma_ok.1 o t0 t1
  have h4 : okD 3 (.int S.life) = true := int_ok o.life.1 (by have := o.life.2; omega)
  have h5 : okD 3 (.list (stores4.map λ z => leaseV S.L z turn S.lz)) = true := by
    simp only [okD]
    refine okA_of λ d hd => ?_
    obtain ⟨z,_,rfl⟩ := List.mem_map.mp hd
    exact ok_mono _ _ (leaseV_ok o.lz).1
  have h6 : okD 3 (.int 6) = true := int_ok (by decide) (by decide)
  have h7 : okD 3 (.str "ma") = true := by simp only [okD]; exact ma_ok.1
  unfold seenD
  rw [okD]
  simp only [okA,h1,h2,h3,h4,h5,h6,h7,Bool.and_true,Bool.true_and]
  simp [okD]
theorem seen_repr {S : Mst} {turn : Int} (o : OkS S) (t0 : 0 <= turn) (t1 : turn <= 100000000) : reprOk (seenD S turn) = true := by
  refine reprOk_of (k := 4) (by decide) (seen_okD o t0 t1) ?_
  · have h1 := bigA_le (n := 5000) (ds := S.L.map toldD) λ d hd => by
      obtain ⟨c,hc,rfl⟩ := List.mem_map.mp hd
      exact told_big (o.ok c hc)
    have h2 := bigA_le (n := 7000) (ds := S.lz) λ d hd => (o.lz d hd).2.2
    have h3 := beat_big (turn := turn) ma_ok.2 o
    have h5 := bigA_le (n := 5000) (ds := stores4.map λ z => leaseV S.L z turn S.lz) λ d hd => by
      obtain ⟨z,_,rfl⟩ := List.mem_map.mp hd
      exact (leaseV_ok o.lz).2
    have h6 := o.len
    have h7 := o.lzl
    rw [List.length_map] at h1 h5
    have h8 : stores4.length = 4 := rfl
    rw [h8] at h5
    have h9 := ma_ok.2
    simp only [seenD,big,bigA]
    omega
theorem lk_called {nm : Str} {room : Int} {S : Mst} {d : Addr} : (flm nm room S d).lookup ("called" : Str) = none := rfl
theorem lk_berths {nm : Str} {room : Int} {S : Mst} {d : Addr} : (flm nm room S d).lookup ("berths" : Str) = none := rfl
def sp_Machine_called : SpD := λ ws M Q => ∃ s d nm room S,ws = [.m s] /\ Pm M s d nm room S /\ Q (.d (.str nm)) M
theorem len_Machine_called : ∀ ws M Q,sp_Machine_called ws M Q -> ws.length = 1 := by rintro ws M Q ⟨s,d,nm,room,S,rfl,_⟩; rfl
theorem read_Machine_called : ∀ ws M Q,sp_Machine_called ws M Q -> t_Machine_called { nx := λ _ M' => Q (.d .none) M',rt := Q } (startD N_Machine_called ws) M := by
  rintro ws M Q ⟨s,d,nm,room,S,rfl,H,k⟩
  exact ⟨_,rfl,s,_,_,rfl,H.hs,lk_name,k⟩
def sp_Machine_berths : SpD := λ ws M Q => ∃ s d nm room S,ws = [.m s] /\ Pm M s d nm room S /\ Q (.d (.int room)) M
theorem len_Machine_berths : ∀ ws M Q,sp_Machine_berths ws M Q -> ws.length = 1 := by rintro ws M Q ⟨s,d,nm,room,S,rfl,_⟩; rfl
theorem read_Machine_berths : ∀ ws M Q,sp_Machine_berths ws M Q -> t_Machine_berths { nx := λ _ M' => Q (.d .none) M',rt := Q } (startD N_Machine_berths ws) M := by
  rintro ws M Q ⟨s,d,nm,room,S,rfl,H,k⟩
  exact ⟨_,rfl,s,_,_,rfl,H.hs,lk_count,k⟩
def sp_l_seen : SpD := λ ws M Q => ∃ s d S turn,ws = [.m s,.d (.int turn)] /\ Pm M s d "ma" 6 S /\ OkS S /\ 0 <= turn /\ turn <= 100000000 /\ ∀ M',Ext M M' -> Q (.d (.str (seenD S turn).shown)) M'
theorem len_l_seen : ∀ ws M Q,sp_l_seen ws M Q -> ws.length = 2 := by rintro ws M Q ⟨s,d,S,turn,rfl,_⟩; rfl
theorem read_l_seen : ∀ ws M Q,sp_l_seen ws M Q -> t_l_seen sp_Machine_lease_at sp_Machine_called sp_Machine_berths sp_Machine_life sp_Machine_stands sp_Machine_lying sp_Machine_leases sp_Machine_beat { nx := λ _ M' => Q (.d .none) M',rt := Q } (startD N_l_seen ws) M := by
  rintro ws M Q ⟨s,d,S,turn,rfl,H,o,t0,t1,k⟩
  have s16' := s16
  have l6 := o.len
  refine ⟨_,rfl,few (by simp),_,rfl,?_⟩
  refine lc_rows stores4 (λ z => W.d (.str z)) (λ z => leaseV S.L z turn S.lz) (λ τ => ∃ x,τ = [x,some (.m s),some (.d (.int turn))]) (by decide) ⟨_,rfl⟩ (λ z hz τ hτ R h => ?_) (λ τ => ?_)
  · obtain ⟨x,rfl⟩ := hτ
    exact ⟨_,rfl,s,_,rfl,H.hs,lk_lease_at,_,rfl,_,rfl,s,d, "ma",6,S,z,turn,rfl,H,o.lz,_,rfl,h _ ⟨_,rfl⟩⟩
  · refine ⟨_,rfl,s,_,rfl,H.hs,lk_called,s,d, "ma",6,S,rfl,H,?_⟩
    refine ⟨_,rfl,s,_,rfl,H.hs,lk_berths,s,d, "ma",6,S,rfl,H,?_⟩
    refine ⟨_,rfl,s,_,rfl,H.hs,lk_life,s,d, "ma",6,S,rfl,H,?_⟩
    refine ⟨_,rfl,s,_,rfl,H.hs,lk_stands,s,d, "ma",6,S,rfl,H,?_⟩
    refine ⟨_,rfl,s,_,rfl,H.hs,lk_lying,s,d, "ma",6,S,rfl,H,by omega,?_⟩
    refine ⟨_,rfl,s,_,rfl,H.hs,lk_leases,s,d, "ma",6,S,rfl,H,λ M1 x1 => ⟨_,rfl,few (by simp),?_⟩⟩
    have H1 : Pm M1 s d "ma" 6 S := H.keep (Fr.of_ext x1 []) (by simp) (by simp)
    refine ⟨_,rfl,_,rfl,s,_,rfl,H1.hs,lk_beat,_,rfl,s,d, "ma",6,S,turn,rfl,H1,by omega,?_⟩
    exact ⟨_,rfl,_,rfl,few (by simp),_,_,.d,.d,few (by simp),_,_,rfl,.d,seen_repr o t0 t1,k M1 x1⟩
inductive Act where
  | rise | fall | go
  | fail (n : Int)
  | take (life turn : Int) (rows : List Mc) (lz : List PyData)
def Act.way : Act -> Int
  | .rise => 0
  | .fall => 1
  | .fail _ => 2
  | .take _ _ _ _ => 3
  | .go => 4
def Act.thing : Act -> PyData
  | .fail n => .int n
  | .take life turn rows lz => sheetD life turn rows lz
  | _ => .none
def Act.ok : Act -> Prop
  | .take _ turn rows lz => OkRows rows /\ (lz.length <= 4 /\ ∀ d ∈ lz,LzOk d) /\ 1 <= turn /\ turn <= 1000
  | _ => True
def downS (S : Mst) : Mst := { S with up := false,L := [],lz := [] }
def Act.next (S : Mst) : Act -> Mst
  | .rise => riseS S
  | .fall => if S.up = true then downS S else S
  | .go => { S with L := S.L.map goC }
  | .fail n => { S with L := failL S.L n }
  | .take life turn rows lz => if okT S life turn = true then { S with sheet := turn,L := takeL S.L rows,lz := lz } else S
def Act.ret (S : Mst) : Act -> PyData
  | .rise => .bool (!S.up)
  | .fall => .bool S.up
  | .go => .none
  | .fail n => .bool (ansL S.L n)
  | .take life turn _ _ => .bool (okT S life turn)
theorem act_ok {S : Mst} {a : Act} (o : OkS S) (ha : a.ok) (hl : S.life <= 999999) : OkS (a.next S) := by
  cases a with
  | rise => exact o.rise hl
  | fall =>
    show OkS (if S.up = true then downS S else S)
    split
    · exact o.fall
    · exact o
  | go => exact o.go
  | fail n => exact o.fail n
  | take life turn rows lz =>
    obtain ⟨h1,h2,h3,h4⟩ := ha
    show OkS (if okT S life turn = true then _ else S)
    split
    · rename_i h
      exact o.take h1 h2 h (by omega) (by omega)
    · exact o
def sp_l_done : SpD := λ ws M Q => ∃ (s d : Addr) (S : Mst) (a : Act),ws = [.m s,.d (.int a.way),.d a.thing] /\ Pm M s d "ma" 6 S /\ OkS S /\ a.ok /\
  ∀ d' M',(d' = d \/ M d' = none) -> Pm M' s d' "ma" 6 (a.next S) -> Fr M M' [s,d] -> Q (.d (a.ret S)) M'
theorem len_l_done : ∀ ws M Q,sp_l_done ws M Q -> ws.length = 3 := by rintro ws M Q ⟨s,d,S,a,rfl,_⟩; rfl
theorem read_l_done : ∀ ws M Q,sp_l_done ws M Q -> t_l_done sp_Machine_rise sp_Machine_fall sp_Machine_fail sp_Machine_take sp_Machine_go_on { nx := λ _ M' => Q (.d .none) M',rt := Q } (startD N_l_done ws) M := by
  rintro ws M Q ⟨s,d,S,a,rfl,H,o,ha,k⟩
  have s16' := s16
  have l6 := o.len
  have nd := asc_nd o.asc
  have m1 : ∀ {M' : MH},Fr M M' [s] -> Fr M M' [s,d] := λ f => f.mono (by simp)
  cases a with
  | rise =>
    refine ⟨_,rfl,_,_,.d,.d,rfl,_,rfl,iteT ?_⟩
    exact ⟨_,rfl,s,_,rfl,H.hs,lk_rise,s,d, "ma",6,S,rfl,H,λ M' P' F' => k d M' (.inl rfl) P' (m1 F')⟩
  | fall =>
    refine ⟨_,rfl,_,_,.d,.d,rfl,_,rfl,iteF ⟨_,rfl,_,_,.d,.d,rfl,_,rfl,iteT ?_⟩⟩
    refine ⟨_,rfl,s,_,rfl,H.hs,lk_fall,s,d, "ma",6,S,rfl,H,λ hf => ?_,λ ht d' M' hd' P' F' => ?_⟩
    · have := k d M (.inl rfl) (by show Pm M s d "ma" 6 (if S.up = true then downS S else S); rw [hf,if_neg (by simp)]; exact H) (Fr.refl M _)
      simpa [Act.ret,hf] using this
    · have := k d' M' (.inr hd') (by show Pm M' s d' "ma" 6 (if S.up = true then downS S else S); rw [ht,if_pos rfl]; exact P') (m1 F')
      simpa [Act.ret,ht] using this
  | fail n =>
    refine ⟨_,rfl,_,_,.d,.d,rfl,_,rfl,iteF ⟨_,rfl,_,_,.d,.d,rfl,_,rfl,iteF ⟨_,rfl,_,_,.d,.d,rfl,_,rfl,iteT ?_⟩⟩⟩
    exact ⟨_,rfl,s,_,rfl,H.hs,lk_fail,_,rfl,s,d, "ma",6,S,n,rfl,H,nd,by omega,λ M' P' F' => k d M' (.inl rfl) P' (F'.mono (by simp))⟩
  | take life turn rows lz =>
    obtain ⟨h1,h2,h3,h4⟩ := ha
    refine ⟨_,rfl,_,_,.d,.d,rfl,_,rfl,iteF ⟨_,rfl,_,_,.d,.d,rfl,_,rfl,iteF ⟨_,rfl,_,_,.d,.d,rfl,_,rfl,iteF ⟨_,rfl,_,_,.d,.d,rfl,_,rfl,iteT ?_⟩⟩⟩⟩
    refine ⟨_,rfl,s,_,rfl,H.hs,lk_take,?_⟩
    refine ⟨_,rfl,0,_,rfl,rfl,rfl,_,rfl,1,_,rfl,rfl,rfl,_,rfl,2,_,rfl,rfl,rfl,_,_,rfl,.l,λ l1 hl1 => ⟨l1,rows.map rowD,rfl,updM_same,?_⟩⟩
    have g1 := sealed (o := .lst ((rows.map rowD).map W.d)) hl1
    generalize delM (updM M l1 (.lst ((rows.map rowD).map W.d))) l1 = M1 at g1
    refine ⟨_,rfl,3,_,rfl,rfl,rfl,_,_,rfl,.l,λ l2 hl2 => ⟨l2,lz,rfl,updM_same,?_⟩⟩
    have g2 : Ext M (delM (updM M1 l2 (.lst (lz.map W.d))) l2) := λ q o e => sealed (o := .lst (lz.map W.d)) hl2 q o (g1 q o e)
    generalize delM (updM M1 l2 (.lst (lz.map W.d))) l2 = M2 at g2
    have P2 : Pm M2 s d "ma" 6 S := H.keep (Fr.of_ext g2 []) (by simp) (by simp)
    have hlr := h1.len
    refine ⟨_,rfl,few (by simp),s,d, "ma",6,S,life,turn,rows,lz,rfl,P2,asc_nd h1.asc,by omega,λ r hr => (h1.ok r hr).2,λ hf => ?_,λ ht e M3 he P3 F3 => ?_⟩
    · have := k d M2 (.inl rfl) (by show Pm M2 s d "ma" 6 (if okT S life turn = true then _ else S); rw [hf,if_neg (by simp)]; exact P2) (Fr.of_ext g2 _)
      simpa [Act.ret,hf] using this
    · have he' : M e = none := by
        cases q : M e with
        | none => rfl
        | some o => rw [g2 e o q] at he; cases he
      have := k e M3 (.inr he') (by show Pm M3 s e "ma" 6 (if okT S life turn = true then _ else S); rw [ht,if_pos rfl]; exact P3) (λ q o h1 h2 => F3 q o (g2 q o h1) λ z => h2 (by simp at z; simp [z]))
      simpa [Act.ret,ht] using this
  | go =>
    refine ⟨_,rfl,_,_,.d,.d,rfl,_,rfl,iteF ⟨_,rfl,_,_,.d,.d,rfl,_,rfl,iteF ⟨_,rfl,_,_,.d,.d,rfl,_,rfl,iteF ⟨_,rfl,_,_,.d,.d,rfl,_,rfl,iteF ?_⟩⟩⟩⟩
    exact ⟨_,rfl,s,_,rfl,H.hs,lk_go_on,s,d, "ma",6,S,rfl,H,nd,by omega,λ d' M' hd' P' F' => k d' M' (.inr hd') P' (m1 F')⟩
def sp_l_drawn : SpD := λ ws M Q => ∃ (p : Addr) (turn life : Int),ws = [.m p,.d (.int turn),.d (.int life)] /\ Bag M p /\ 1 <= turn /\ turn <= 100 /\ 0 <= life /\ life <= 1000 /\
  ∀ (a : Act) M',a.ok -> Bag M' p -> Fr M M' [p] -> Q (.d (.tuple [.int a.way,a.thing])) M'
theorem len_l_drawn : ∀ ws M Q,sp_l_drawn ws M Q -> ws.length = 3 := by rintro ws M Q ⟨p,t,l,rfl,_⟩; rfl
theorem ix_ints {M : MH} {is : List Int} {r : Int} (h0 : 0 <= r) (h1 : r < is.length) : ∃ i ∈ is,ixW M (.d (.list (is.map PyData.int))) r = some (.d (.int i)) := by
  obtain ⟨d,e,hd⟩ := ix_at (M := M) (ds := is.map PyData.int) h0 (by simpa using h1)
  obtain ⟨i,hi,rfl⟩ := List.mem_map.mp hd
  exact ⟨i,hi,e⟩
theorem read_l_drawn : ∀ ws M Q,sp_l_drawn ws M Q -> t_l_drawn sp_l_take sp_l_sheet { nx := λ _ M' => Q (.d .none) M',rt := Q } (startD N_l_drawn ws) M := by
  rintro ws M Q ⟨p,turn,life,rfl,hb,t0,t1,l0,l1,k⟩
  have s16' := s16
  refine ⟨_,rfl,few (by simp),_,rfl,p,12,rfl,hb,by decide,by decide,λ r M1 r0 r1 b1 f1 => ?_⟩
  obtain ⟨w,hw,ew⟩ := ix_ints (M := M1) (is := [0,0,1,2,2,4,4,4,3,3,3,3]) r0 (by simpa using r1)
  have F1 : Fr M M1 [p] := Fr.of_eq f1
  refine ⟨r,_,rfl,ew,rfl,?_⟩
  have rest : ∀ (w : Int) (M2 : MH),Bag M2 p -> Fr M M2 [p] -> (w = 0 \/ w = 1 \/ w = 2 \/ w = 3 \/ w = 4) ->
      (dSeq (dIf (dTest (dOp rdEqT (dVar 3) (dC (.d (.int 2)))))
      (dRet (dTup (dCons (dC (.d (.int 2))) (dCons (dOp rdAdd (dC (.d (.int 1))) (dCall sp_l_take (dCons (dVar 0) (dCons (dC (.d (.int 12))) (dNil))))) (dNil)))))
      (dNext)) <|
    dSeq (dIf (dTest (dOp rdEqT (dVar 3) (dC (.d (.int 3)))))
      (dSeq (dAsg (dCB rdMax2 (dCons (dC (.d (.int 1))) (dCons (dOp rdAdd (dVar 2) (dOp rdIx (dLst (dCons (dC (.d (.int 0))) (dCons (dC (.d (.int 0))) (dCons (dC (.d (.int 0))) (dCons (dC (.d (.int 0))) (dCons (dUn rdNeg (dC (.d (.int 1)))) (dCons (dC (.d (.int 1))) (dNil)))))))) (dCall sp_l_take (dCons (dVar 0) (dCons (dC (.d (.int 6))) (dNil)))))) (dNil)))) (gN 4)) <|
      dRet (dTup (dCons (dC (.d (.int 3))) (dCons (dCall sp_l_sheet (dCons (dVar 0) (dCons (dVar 4) (dCons (dCB rdMax2 (dCons (dC (.d (.int 1))) (dCons (dOp rdSub (dVar 1) (dOp rdIx (dLst (dCons (dC (.d (.int 0))) (dCons (dC (.d (.int 0))) (dCons (dC (.d (.int 0))) (dCons (dC (.d (.int 1))) (dCons (dC (.d (.int 4))) (dNil))))))) (dCall sp_l_take (dCons (dVar 0) (dCons (dC (.d (.int 5))) (dNil)))))) (dNil)))) (dCons (dC (.d (.int 6))) (dNil)))))) (dNil)))))
      (dNext)) <|
    dRet (dTup (dCons (dVar 3) (dCons (dC (.d .none)) (dNil))))) { nx := λ _ M' => Q (.d .none) M',rt := Q } [some (.m p),some (.d (.int turn)),some (.d (.int life)),some (.d (.int w)),none] M2 := by
    intro w M2 b2 F2 hw
    rcases hw with rfl | rfl | rfl | rfl | rfl
    · refine ⟨_,rfl,_,_,.d,.d,rfl,_,rfl,iteF ⟨_,rfl,_,_,.d,.d,rfl,_,rfl,iteF ⟨_,rfl,_,rfl,few (by simp),?_⟩⟩⟩
      exact k .rise M2 trivial b2 F2
    · refine ⟨_,rfl,_,_,.d,.d,rfl,_,rfl,iteF ⟨_,rfl,_,_,.d,.d,rfl,_,rfl,iteF ⟨_,rfl,_,rfl,few (by simp),?_⟩⟩⟩
      exact k .fall M2 trivial b2 F2
    · refine ⟨_,rfl,_,_,.d,.d,rfl,_,rfl,iteT ⟨_,rfl,p,12,rfl,b2,by decide,by decide,λ n M3 n0 n1 b3 f3 => .inl ⟨_,_,rfl,rfl,_,rfl,few (by simp),?_⟩⟩⟩
      exact k (.fail (1 + n)) M3 trivial b3 ((F2.trans (Fr.of_eq f3)).mono (by simp))
    · refine ⟨_,rfl,_,_,.d,.d,rfl,_,rfl,iteF ⟨_,rfl,_,_,.d,.d,rfl,_,rfl,iteT ?_⟩⟩
      refine ⟨_,rfl,_,rfl,_,rfl,few (by simp),_,rfl,p,6,rfl,b2,by decide,by decide,λ c M3 c0 c1 b3 f3 => ?_⟩
      obtain ⟨i,hi,ei⟩ := ix_ints (M := M3) (is := [0,0,0,0,-1,1]) c0 (by simpa using c1)
      refine ⟨c,_,rfl,ei,rfl,.inl ⟨_,_,rfl,rfl,_,_,rfl,?_⟩⟩
      refine ⟨_,rfl,_,rfl,_,rfl,_,rfl,few (by simp),_,rfl,p,5,rfl,b3,by decide,by decide,λ e M4 e0 e1 b4 f4 => ?_⟩
      obtain ⟨j,hj,ej⟩ := ix_ints (M := M4) (is := [0,0,0,1,4]) e0 (by simpa using e1)
      refine ⟨e,_,rfl,ej,rfl,_,_,rfl,rfl,_,_,rfl,?_⟩
      have hj4 : 0 <= j /\ j <= 4 := by
        simp only [List.mem_cons,List.not_mem_nil,or_false] at hj
        omega
      obtain ⟨tn,htn,tn0,tn1⟩ : ∃ tn : Int,(if turn - j > 1 then turn - j else 1) = tn /\ 1 <= tn /\ tn <= 1000 := ⟨_,rfl,by split <;> omega,by split <;> omega⟩
      rw [htn]
      refine ⟨p,_,tn,6,rfl,b4,by decide,by decide,by omega,by omega,λ rows lz M5 h1 h2 h3 b5 F5 => ⟨_,rfl,few (by simp),?_⟩⟩
      exact k (.take _ tn rows lz) M5 ⟨h1,h3,tn0,tn1⟩ b5 (((F2.trans (Fr.of_eq f3)).trans ((Fr.of_eq f4).trans F5)).mono (by simp))
    · refine ⟨_,rfl,_,_,.d,.d,rfl,_,rfl,iteF ⟨_,rfl,_,_,.d,.d,rfl,_,rfl,iteF ⟨_,rfl,_,rfl,few (by simp),?_⟩⟩⟩
      exact k .go M2 trivial b2 F2
  have hw5 : w = 0 \/ w = 1 \/ w = 2 \/ w = 3 \/ w = 4 := by
    simp only [List.mem_cons,List.not_mem_nil,or_false] at hw
    omega
  refine ⟨_,rfl,_,_,.d,.d,rfl,_,rfl,?_⟩
  rw [eqv_int']
  by_cases h1 : w = 1
  · rw [decide_eq_true h1]
    refine iteT ⟨_,rfl,p,3,rfl,b1,by decide,by decide,λ c M2 c0 c1 b2 f2 => ⟨_,_,rfl,rfl,_,rfl,?_⟩⟩
    have F2 := (F1.trans (Fr.of_eq f2)).mono (U := [p]) (by simp)
    refine ite_b (λ _ => ?_) (λ _ => ?_)
    · exact rest 4 M2 b2 F2 (by simp)
    · exact rest w M2 b2 F2 hw5
  · rw [decide_eq_false h1]
    exact iteF (iteF (rest w M1 b1 F1 hw5))
def told4 (c : Mc) : PyData := .tuple [.int c.num,.str c.wish,.str c.kind,.int c.ed]
def cameD (c : Mc) : PyData := .tuple [.str c.wish,.str c.kind,.int c.ed]
def cm (L : List Mc) : List (Key × PyData) := L.map λ c => (.inl c.num,cameD c)
theorem tget_cm (L : List Mc) (n : Int) : tget (dataKV (cm L)) (.inl n) = (fi L n).map λ c => .d (cameD c) := by
  induction L with
  | nil => rfl
  | cons c L ih =>
    have e1 : dataKV (cm (c :: L)) = ((.inl c.num : Key),W.d (cameD c)) :: dataKV (cm L) := rfl
    rw [e1,tget_cons,fi_cons,ih]
    by_cases e : c.num = n
    · simp [e]
    · have e' : ¬ (Sum.inl c.num : Key) = .inl n := λ z => e (Sum.inl.inj z)
      simp [e,e']
theorem fi_at {L : List Mc} (nd : (L.map Mc.num).Nodup) {c : Mc} (h : c ∈ L) : fi L c.num = some c := by
  induction L with
  | nil => cases h
  | cons b L ih =>
    rw [List.map_cons,List.nodup_cons] at nd
    rw [fi_cons]
    rcases List.mem_cons.mp h with rfl | h
    · rw [if_pos rfl]
    · rw [if_neg λ e => nd.1 (by rw [e]; exact List.mem_map_of_mem h)]
      exact ih nd.2 h
def Sh (S : Mst) (d : PyData) : Prop := (d = .none /\ S.L = [] /\ S.lz = []) \/ ∃ life t rows,d = sheetD life t rows S.lz /\ rows.map Mc.num = S.L.map Mc.num
def sp_l_right : SpD := λ ws M Q => ∃ (s d c : Addr) (S : Mst) (x : PyData),ws = [.m s,.m c,.d x] /\ Pm M s d "ma" 6 S /\ OkS S /\ M c = some (.dic (dataKV (cm S.L))) /\ Sh S x /\ ∀ M',Ext M M' -> Q (.d (.bool true)) M'
theorem len_l_right : ∀ ws M Q,sp_l_right ws M Q -> ws.length = 3 := by rintro ws M Q ⟨s,d,c,S,x,rfl,_⟩; rfl
def rowF (L : List Mc) : W -> Option PyData
  | .d (.tuple (.int n :: _)) => (fi L n).map told4
  | _ => none
theorem rowF_all {L rows : List Mc} (nd : (L.map Mc.num).Nodup) (h : rows.map Mc.num = L.map Mc.num) : ((rows.map rowD).map W.d).filterMap (rowF L) = L.map told4 := by
  have e1 : ((rows.map rowD).map W.d).filterMap (rowF L) = (rows.map Mc.num).filterMap λ n => (fi L n).map told4 := by
    rw [List.map_map,List.filterMap_map,List.filterMap_map]
    rfl
  rw [e1,h]
  have main : ∀ K : List Mc,(∀ c ∈ K,c ∈ L) -> (K.map Mc.num).filterMap (λ n => (fi L n).map told4) = K.map told4 := by
    intro K
    induction K with
    | nil => intro _; rfl
    | cons c K ih =>
      intro hK
      have e : (λ n => (fi L n).map told4) c.num = some (told4 c) := by
        show (fi L c.num).map told4 = _
        rw [fi_at nd (hK c (by simp))]
        rfl
      rw [List.map_cons,List.filterMap_cons_some (f := λ n => (fi L n).map told4) e,ih λ x hx => hK x (by simp [hx])]
      rfl
  exact main L λ c hc => hc
theorem told4_ok {L : List Mc} (h : ∀ c ∈ L,OkC c) : okD 2 (.list (L.map told4)) = true := by
  simp only [okD]
  refine okA_of λ d hd => ?_
  obtain ⟨c,hc,rfl⟩ := List.mem_map.mp hd
  have oc := h c hc
  have hn := oc.num
  have he := oc.ed
  simp only [told4,okD,okA,oc.wa.1,oc.ka.1,Bool.and_true,Bool.true_and]
  have := p100
  simp only [Bool.and_eq_true,decide_eq_true_eq]
  omega
theorem lz_ok {S : Mst} (o : OkS S) : okD 2 (.list S.lz) = true := by
  simp only [okD]
  exact okA_of λ d hd => (o.lz d hd).2.1
theorem read_l_right : ∀ ws M Q,sp_l_right ws M Q -> t_l_right sp_Machine_lying sp_Machine_leases sp_Machine_berths { nx := λ _ M' => Q (.d .none) M',rt := Q } (startD N_l_right ws) M := by
  rintro ws M Q ⟨s,d,c,S,x,rfl,H,o,hc,hx,k⟩
  have s16' := s16
  have l6 := o.len
  have nd := asc_nd o.asc
  refine ⟨_,rfl,s,_,rfl,H.hs,lk_lying,s,d, "ma",6,S,rfl,H,by omega,_,rfl,?_⟩
  refine lc_pure (λ w => match w with | .d (.tuple [a,b,c,d,_]) => some (.tuple [a,b,c,d]) | _ => none) (by rw [List.length_map,List.length_map]; omega) (λ w hw P' hp => ?_) ?_
  · obtain ⟨y,hy,rfl⟩ := List.mem_map.mp hw
    obtain ⟨z,hz,rfl⟩ := List.mem_map.mp hy
    exact ⟨_,rfl,_,rfl,_,rfl,rfl,_,rfl,rfl,hp⟩
  have e1 : List.filterMap (λ w => match w with | .d (.tuple [a,b,c,d,_]) => some (PyData.tuple [a,b,c,d]) | _ => none) ((S.L.map toldD).map W.d) = S.L.map told4 := by
    rw [List.map_map,List.filterMap_map,<- List.filterMap_eq_map]
    rfl
  rw [e1]
  rcases hx with ⟨rfl,hL,hz⟩ | ⟨life,t,rows,rfl,hr⟩
  · refine ⟨_,rfl,rfl,_,rfl,iteT ?_⟩
    rw [hL]
    refine ⟨_,rfl,_,rfl,few (by simp),_,_,.d,.d,rfl,_,rfl,iteT ?_⟩
    refine ⟨_,rfl,s,_,rfl,H.hs,lk_leases,s,d, "ma",6,S,rfl,H,λ M1 x1 => ?_⟩
    rw [hz]
    exact ⟨_,rfl,few (by simp),_,_,.d,.d,rfl,k M1 x1⟩
  · refine ⟨_,rfl,rfl,_,rfl,iteF ?_⟩
    refine ⟨_,rfl,_,rfl,2,_,rfl,rfl,rfl,_,rfl,?_⟩
    refine lc_pure (rowF S.L) (by
      have := congrArg List.length hr
      rw [List.length_map,List.length_map] at this
      rw [List.length_map,List.length_map]
      omega) (λ w hw P' hp => ?_) ?_
    · obtain ⟨y,hy,rfl⟩ := List.mem_map.mp hw
      obtain ⟨r,hr',rfl⟩ := List.mem_map.mp hy
      obtain ⟨z,hz,ez⟩ : ∃ z ∈ S.L,z.num = r.num := by
        have : r.num ∈ S.L.map Mc.num := by rw [<- hr]; exact List.mem_map_of_mem hr'
        obtain ⟨z,h1,h2⟩ := List.mem_map.mp this
        exact ⟨z,h1,h2⟩
      have ef : fi S.L r.num = some z := by rw [<- ez]; exact fi_at nd hz
      have e2 : rowF S.L (.d (rowD r)) = some (told4 z) := by
        show (fi S.L r.num).map told4 = _
        rw [ef]
        rfl
      rw [e2] at hp
      refine ⟨_,rfl,0,_,rfl,rfl,rfl,_,rfl,few (by simp),_,rfl,_,rfl,0,_,rfl,rfl,rfl,c,_,.inl r.num,_,rfl,.inl hc,rfl,by rw [tget_cm,ef]; rfl,_,_,rfl,rfl,by simp,few (by simp [cameD]),_,rfl,rfl,?_⟩
      have e3 : told4 z = .tuple ([.int r.num] ++ [.str z.wish,.str z.kind,.int z.ed]) := by unfold told4; rw [ez]; rfl
      rw [e3] at hp
      exact hp
    rw [rowF_all nd hr]
    have ok := told4_ok o.ok
    refine ⟨_,_,.d,.d,eqOk2_of (by decide) ok ok,_,rfl,?_⟩
    rw [refl_of ok]
    refine iteF ⟨_,rfl,s,_,rfl,H.hs,lk_leases,s,d, "ma",6,S,rfl,H,λ M1 x1 => ?_⟩
    have H1 : Pm M1 s d "ma" 6 S := H.keep (Fr.of_ext x1 []) (by simp) (by simp)
    have okz := lz_ok o
    refine ⟨_,rfl,3,_,rfl,rfl,rfl,_,_,.d,.d,eqOk2_of (by decide) okz okz,_,rfl,?_⟩
    rw [refl_of okz]
    refine iteT ⟨_,rfl,s,_,rfl,H1.hs,lk_lying,s,d, "ma",6,S,rfl,H1,by omega,_,_,rfl,rfl,rfl,?_⟩
    refine ⟨_,rfl,s,_,rfl,H1.hs,lk_berths,s,d, "ma",6,S,rfl,H1,.inl ⟨_,_,rfl,rfl,?_⟩⟩
    have h6 : decide ((((S.L.map toldD).length : Nat) : Int) <= (6 : Int)) = true := decide_eq_true (by rw [List.length_map]; omega)
    show Q (.d (.bool (decide ((((S.L.map toldD).length : Nat) : Int) <= (6 : Int))))) M1
    rw [h6]
    exact k M1 x1
abbrev msW (ms : List (Addr × Addr)) : List W := ms.map λ x => W.m x.1
structure Iv (M : MH) (b f c : Addr) (ms : List (Addr × Addr)) (S : Mst) : Prop where
  bag : Bag M b
  nf : f ≠ b
  pm : ∀ x ∈ ms,Pm M x.1 x.2 "ma" 6 S
  ns : (ms.map (·.1)).Nodup
  nd : (ms.map (·.2)).Nodup
  nc : c ∉ ms.map (·.2)
  ok : OkS S
  ne : 1 <= ms.length
  le : ms.length <= 4
theorem Iv.ext {M M' : MH} {b f c : Addr} {ms : List (Addr × Addr)} {S : Mst} (I : Iv M b f c ms S) (x : Ext M M') : Iv M' b f c ms S :=
  ⟨x.bag I.bag,I.nf,λ y hy => (I.pm y hy).keep (Fr.of_ext x []) (by simp) (by simp),I.ns,I.nd,I.nc,I.ok,I.ne,I.le⟩
theorem Iv.bn {M : MH} {b f c : Addr} {ms : List (Addr × Addr)} {S : Mst} (I : Iv M b f c ms S) : ∀ x ∈ ms,x.1 ≠ b /\ x.2 ≠ b := λ x hx => by
  obtain ⟨a1,a2,a3,a4,hb,_⟩ := I.bag
  exact ⟨ne_M (I.pm x hx).hs hb (by intro z; cases z),ne_M (I.pm x hx).hd hb (by intro z; cases z)⟩
theorem Iv.frb {M M' : MH} {b f c : Addr} {ms : List (Addr × Addr)} {S : Mst} (I : Iv M b f c ms S) (F : Fr M M' [b]) (hb : Bag M' b) : Iv M' b f c ms S :=
  ⟨hb,I.nf,λ y hy => (I.pm y hy).keep F (by simpa using (I.bn y hy).1) (by simpa using (I.bn y hy).2),I.ns,I.nd,I.nc,I.ok,I.ne,I.le⟩
structure Mid (M : MH) (b f c : Addr) (ms pre : List (Addr × Addr)) (i : Nat) (S S' : Mst) (o : MO) : Prop where
  bag : Bag M b
  hf : M f = some (.flst (msW ms))
  fst : pre.map (·.1) = (ms.take i).map (·.1)
  pp : ∀ x ∈ pre,Pm M x.1 x.2 "ma" 6 S'
  pr : ∀ x ∈ ms.drop i,Pm M x.1 x.2 "ma" 6 S
  nd : ((pre ++ ms.drop i).map (·.2)).Nodup
  nc : c ∉ (pre ++ ms.drop i).map (·.2)
  hc : M c = some o
theorem Mid.step {M M' : MH} {b f c s d d' : Addr} {ms pre : List (Addr × Addr)} {i : Nat} {S S' : Mst} {o : MO} (I : Mid M b f c ms pre i S S' o) (ns : (ms.map (·.1)).Nodup) (e : ms[i]? = some (s,d)) (hcd : ∃ kv,o = .dic kv)
    (hd' : d' = d \/ M d' = none) (P' : Pm M' s d' "ma" 6 S') (F : Fr M M' [s,d]) : Mid M' b f c ms (pre ++ [(s,d')]) (i + 1) S S' o := by
  have hi : i < ms.length := (List.getElem?_eq_some_iff.mp e).1
  have hdr : ms.drop i = (s,d) :: ms.drop (i + 1) := by
    rw [List.drop_eq_getElem_cons hi]
    have : ms[i] = (s,d) := (List.getElem?_eq_some_iff.mp e).2
    rw [this]
  have P : Pm M s d "ma" 6 S := I.pr (s,d) (by rw [hdr]; simp)
  have hall : ∀ x ∈ pre ++ ms.drop i,∃ T,Pm M x.1 x.2 "ma" 6 T := λ x hx => by
    rcases List.mem_append.mp hx with h | h
    · exact ⟨_,I.pp x h⟩
    · exact ⟨_,I.pr x h⟩
  have nds := I.nd
  have ncs := I.nc
  rw [hdr] at nds ncs
  have split : ms.map (·.1) = (ms.take i).map (·.1) ++ s :: (ms.drop (i + 1)).map (·.1) := by
    have : ms = ms.take i ++ (s,d) :: ms.drop (i + 1) := by rw [<- hdr,List.take_append_drop]
    calc ms.map (·.1) = (ms.take i ++ (s,d) :: ms.drop (i + 1)).map (·.1) := by rw [<- this]
      _ = _ := by simp
  rw [split,<- I.fst] at ns
  have sn1 : ∀ x ∈ pre,x.1 ≠ s := λ x hx z => by
    have := (List.nodup_append.mp ns).2.2 x.1 (List.mem_map_of_mem hx) s (by simp)
    exact this z
  have sn2 : ∀ x ∈ ms.drop (i + 1),x.1 ≠ s := λ x hx z => by
    have := (List.nodup_cons.mp (List.nodup_append.mp ns).2.1).1
    have h := List.mem_map_of_mem (f := (·.1)) hx
    rw [z] at h
    exact this h
  rw [List.map_append,List.map_cons] at nds
  have dn1 : ∀ x ∈ pre,x.2 ≠ d := λ x hx z => by
    have := (List.nodup_append.mp nds).2.2 x.2 (List.mem_map_of_mem hx) d (by simp)
    exact this z
  have dn2 : ∀ x ∈ ms.drop (i + 1),x.2 ≠ d := λ x hx z => by
    have := (List.nodup_cons.mp (List.nodup_append.mp nds).2.1).1
    have h := List.mem_map_of_mem (f := (·.2)) hx
    rw [z] at h
    exact this h
  have keep : ∀ {x : Addr × Addr} {T : Mst},Pm M x.1 x.2 "ma" 6 T -> x.1 ≠ s -> x.2 ≠ d -> Pm M' x.1 x.2 "ma" 6 T := λ h h1 h2 =>
    h.keep F (by simp only [List.mem_cons,List.not_mem_nil,or_false,not_or]; exact ⟨h1,ne_M h.hs P.hd (by intro z; cases z)⟩) (by simp only [List.mem_cons,List.not_mem_nil,or_false,not_or]; exact ⟨ne_M h.hd P.hs (by intro z; cases z),h2⟩)
  have sub : ∀ x,x ∈ pre \/ x ∈ ms.drop (i + 1) -> x ∈ pre ++ ms.drop i := λ x hx => by
    rw [hdr]
    rcases hx with h | h <;> simp [h]
  have fresh : M d' = none -> ∀ x,x ∈ pre \/ x ∈ ms.drop (i + 1) -> x.2 ≠ d' := λ hn x hx z => by
    obtain ⟨T,hT⟩ := hall x (sub x hx)
    rw [<- z,hT.hd] at hn
    cases hn
  have dn : ∀ x,x ∈ pre \/ x ∈ ms.drop (i + 1) -> x.2 ≠ d' := λ x hx => by
    rcases hd' with rfl | hn
    · rcases hx with h | h
      · exact dn1 x h
      · exact dn2 x h
    · exact fresh hn x hx
  have cd : c ≠ d := λ z => ncs (by rw [z]; simp)
  have cd' : c ≠ d' := by
    rcases hd' with rfl | hn
    · exact cd
    · exact ne_new I.hc hn
  obtain ⟨kv,rfl⟩ := hcd
  refine ⟨?_,?_,?_,λ x hx => ?_,λ x hx => ?_,?_,?_,?_⟩
  · obtain ⟨a1,a2,a3,a4,hb,_⟩ := id I.bag
    refine F.bag I.bag ?_
    simp only [List.mem_cons,List.not_mem_nil,or_false,not_or]
    exact ⟨ne_M hb P.hs (by intro z; cases z),ne_M hb P.hd (by intro z; cases z)⟩
  · refine F f _ I.hf ?_
    simp only [List.mem_cons,List.not_mem_nil,or_false,not_or]
    exact ⟨ne_M I.hf P.hs (by intro z; cases z),ne_M I.hf P.hd (by intro z; cases z)⟩
  · rw [List.map_append,I.fst,List.take_succ,e,List.map_append]
    rfl
  · rcases List.mem_append.mp hx with h | h
    · exact keep (I.pp x h) (sn1 x h) (dn1 x h)
    · simp at h
      rw [h]
      exact P'
  · exact keep (I.pr x (by rw [hdr]; simp [hx])) (sn2 x hx) (dn2 x hx)
  · rw [List.append_assoc,List.map_append]
    rw [show ([(s,d')] ++ ms.drop (i + 1)).map (·.2) = d' :: (ms.drop (i + 1)).map (·.2) from rfl]
    obtain ⟨h1,h2,h3⟩ := List.nodup_append.mp nds
    refine List.nodup_append.mpr ⟨h1,List.nodup_cons.mpr ⟨λ h => ?_,(List.nodup_cons.mp h2).2⟩,λ y hy z hz => ?_⟩
    · obtain ⟨x,hx,ex⟩ := List.mem_map.mp h
      exact dn x (.inr hx) ex
    · rcases List.mem_cons.mp hz with rfl | hz
      · obtain ⟨x,hx,rfl⟩ := List.mem_map.mp hy
        exact dn x (.inl hx)
      · exact h3 y hy z (List.mem_cons_of_mem _ hz)
  · intro h
    rw [List.append_assoc,List.map_append] at h
    rcases List.mem_append.mp h with h | h
    · exact ncs (by rw [List.map_append]; exact List.mem_append_left _ h)
    · rw [show ([(s,d')] ++ ms.drop (i + 1)).map (·.2) = d' :: (ms.drop (i + 1)).map (·.2) from rfl] at h
      rcases List.mem_cons.mp h with h | h
      · exact cd' h
      · exact ncs (by rw [List.map_append]; exact List.mem_append_right _ (List.mem_cons_of_mem _ h))
  · refine F c _ I.hc ?_
    simp only [List.mem_cons,List.not_mem_nil,or_false,not_or]
    exact ⟨ne_M I.hc P.hs (by intro z; cases z),cd⟩
theorem msW_eq {ms ms' : List (Addr × Addr)} (h : ms'.map (·.1) = ms.map (·.1)) : msW ms' = msW ms := by
  have e : ∀ l : List (Addr × Addr),msW l = (l.map (·.1)).map W.m := λ l => by simp [msW]
  rw [e,e,h]
theorem Iv.fn {M : MH} {b f c : Addr} {ms : List (Addr × Addr)} {S : Mst} (I : Iv M b f c ms S) {w : List W} (hf : M f = some (.lst w)) : ∀ x ∈ ms,x.1 ≠ f /\ x.2 ≠ f := λ x hx =>
  ⟨ne_M (I.pm x hx).hs hf (by intro z; cases z),ne_M (I.pm x hx).hd hf (by intro z; cases z)⟩
theorem Iv.updf {M : MH} {b f c : Addr} {ms : List (Addr × Addr)} {S : Mst} (I : Iv M b f c ms S) {w : List W} (hf : M f = some (.lst w)) (o : MO) : Iv (updM M f o) b f c ms S :=
  ⟨bag_keep I.bag (updM_ne I.nf.symm),I.nf,λ x hx => ⟨by rw [updM_ne (I.fn hf x hx).1]; exact (I.pm x hx).hs,by rw [updM_ne (I.fn hf x hx).2]; exact (I.pm x hx).hd⟩,I.ns,I.nd,I.nc,I.ok,I.ne,I.le⟩
def t_dn : TSd := dStillLS (dAsg (dLC (dItemsF (dVar 2)) (gN 0) (dYes) (dCall sp_l_done (dCons (dVar 0) (dCons (dVar 1) (dCons (dVar 2) (dNil))))) 1 [9,10]) (gN 12))
theorem read_dn {M : MH} {b f c : Addr} {ms : List (Addr × Addr)} {S : Mst} {a : Act} {D : Ed} {kv : List (Key × W)} {x0 x3 x4 x5 x6 x7 x8 x11 x12 x13 x14 x15 : Option W} (I : Iv M b f c ms S) (hf : M f = some (.lst (msW ms))) (ha : a.ok) (hl : S.life <= 999999) (hc : M c = some (.dic kv))
    (k : ∀ ms' M',Iv M' b f c ms' (a.next S) -> M' f = some (.lst (msW ms')) -> M' c = some (.dic kv) -> ms'.length = ms.length ->
      D.nx [x0,some (.m b),some (.m f),x3,x4,x5,x6,x7,x8,some (.d (.int a.way)),some (.d a.thing),x11,some (.d (.list (List.replicate ms.length (a.ret S)))),x13,x14,x15] M') :
    t_dn D [x0,some (.m b),some (.m f),x3,x4,x5,x6,x7,x8,some (.d (.int a.way)),some (.d a.thing),x11,x12,x13,x14,x15] M := by
  have s16' := s16
  have le4 := I.le
  have cf : c ≠ f := ne_M hc hf (by intro z; cases z)
  have I1 := I.updf hf (.flst (msW ms))
  refine ⟨f,_,hf,_,rfl,f,_,rfl,updM_same,?_⟩
  refine ⟨λ i acc τ M' => i <= ms.length /\ acc = List.replicate i (a.ret S) /\ (∃ pre,Mid M' b f c ms pre i S (a.next S) (.dic kv)) /\ ∃ x,τ = [x,some (.d (.int a.way)),some (.d a.thing)],⟨Nat.zero_le _,rfl,⟨[],⟨I1.bag,updM_same,rfl,(λ x hx => by cases hx),λ x hx => I1.pm x (List.mem_of_mem_drop hx),by simpa using I.nd,by simpa using I.nc,by rw [updM_ne cf]; exact hc⟩⟩,_,rfl⟩,?_,?_⟩
  · rintro i w acc τ M' hw ⟨hi,rfl,⟨pre,m⟩,x,rfl⟩
    have hi' : i < ms.length := by
      have := (List.getElem?_eq_some_iff.mp hw).1
      simpa using this
    have e1 : ms[i]? = some ms[i] := List.getElem?_eq_getElem hi'
    rw [List.getElem?_map,e1] at hw
    obtain ⟨s,d,hsd⟩ : ∃ s d,ms[i] = (s,d) := ⟨ms[i].1,ms[i].2,rfl⟩
    rw [hsd] at hw
    cases hw
    have hm : (s,d) ∈ ms.drop i := by
      rw [List.drop_eq_getElem_cons hi',hsd]
      simp
    refine ⟨by rw [List.length_replicate]; omega,_,rfl,_,rfl,_,rfl,s,d,S,a,rfl,m.pr _ hm,I.ok,ha,λ d' M2 hd' P' F' => ⟨_,rfl,hi',?_,⟨_,m.step I.ns (by rw [e1,hsd]) ⟨_,rfl⟩ hd' P' F'⟩,_,rfl⟩⟩
    rw [List.replicate_succ']
  · rintro acc τ M' ⟨hi,rfl,⟨pre,m⟩,x,rfl⟩
    have en : (msW ms).length = ms.length := by simp
    rw [en] at m ⊢
    have efst : pre.map (·.1) = ms.map (·.1) := by rw [m.fst,List.take_length]
    have elen : pre.length = ms.length := by have := congrArg List.length efst; simpa using this
    refine ⟨m.hf,?_⟩
    have nds := m.nd
    have ncs := m.nc
    rw [List.drop_length,List.append_nil] at nds ncs
    have fpre : ∀ x ∈ pre,x.1 ≠ f /\ x.2 ≠ f := λ x hx => ⟨ne_M (m.pp x hx).hs m.hf (by intro z; cases z),ne_M (m.pp x hx).hd m.hf (by intro z; cases z)⟩
    refine k pre _ ⟨bag_keep m.bag (updM_ne I.nf.symm),I.nf,λ x hx => ⟨by rw [updM_ne (fpre x hx).1]; exact (m.pp x hx).hs,by rw [updM_ne (fpre x hx).2]; exact (m.pp x hx).hd⟩,by rw [efst]; exact I.ns,nds,ncs,act_ok I.ok ha hl,by have := I.ne; omega,by omega⟩ (by rw [updM_same,msW_eq efst]) (by rw [updM_ne cf]; exact m.hc) elen
def t_ck : TSd := (dIf (dOr (dTest (dOp rdNeT (dCB rdReprT (dCons (dVar 12) (dNil))) (dCB rdReprT (dCons (dOp rdRep (dLstM (dCons (dOp rdIx (dVar 12) (dC (.d (.int 0)))) (dNil))) (dCB rdLen (dCons (dVar 12) (dNil)))) (dNil))))) (dAnd (dTest (dOp rdEqT (dVar 9) (dC (.d (.int 3))))) (dTest (dOp rdNeT (dCB rdReprT (dCons (dOp rdIx (dVar 12) (dC (.d (.int 0)))) (dNil))) (dCB rdReprT (dCons (dVar 11) (dNil)))))))
        (dRet (dC (.d (.bool false))))
        (dNext))
def t_tl : TSd :=
      dSeq (dIf (dAnd (dTest (dOp rdLt (dCB rdLen (dCons (dVar 2) (dNil))) (dC (.d (.int 4))))) (dTest (dOp rdEqT (dCall sp_l_take (dCons (dVar 1) (dCons (dC (.d (.int 8))) (dNil)))) (dC (.d (.int 0))))))
        (dDrop (dAppend (dVar 2) (dMeth C_Machine "copied" sp_Machine_copied (dOp rdIx (dVar 2) (dCall sp_l_take (dCons (dVar 1) (dCons (dCB rdLen (dCons (dVar 2) (dNil))) (dNil))))) dNil)))
        (dNext)) <|
      dSeq (dStillLS (dAsg (dLC (dItemsF (dVar 2)) (gN 0) (dYes) (dCall sp_l_seen (dCons (dVar 0) (dCons (dVar 1) (dNil)))) 1 [8]) (gN 13))) <|
      dIf (dOr (dTest (dOp rdNeT (dVar 13) (dOp rdRep (dLstM (dCons (dOp rdIx (dVar 13) (dC (.d (.int 0)))) (dNil))) (dCB rdLen (dCons (dVar 13) (dNil)))))) (dNot (dTest (dCall sp_l_right (dCons (dOp rdIx (dVar 2) (dC (.d (.int 0)))) (dCons (dVar 7) (dCons (dVar 5) (dNil))))))))
        (dRet (dC (.d (.bool false))))
        (dNext)
def t_md : TSd :=
      dSeq (dIf (dAnd (dTest (dOp rdEqT (dVar 9) (dC (.d (.int 0))))) (dNot (dTest (dVar 3))))
        (dPar3 3 4 6 (dCons (dC (.d (.bool true))) (dCons (dOp rdAdd (dVar 4) (dC (.d (.int 1)))) (dCons (dC (.d (.int 0))) (dNil)))))
        (dNext)) <|
      dSeq (dIf (dTest (dOp rdEqT (dVar 9) (dC (.d (.int 1)))))
        (dAsg (dC (.d (.bool false))) (gN 3))
        (dNext)) <|
      dSeq (dIf (dAnd (dTest (dOp rdLt (dVar 9) (dC (.d (.int 2))))) (dTest (dOp rdIx (dVar 12) (dC (.d (.int 0))))))
        (dParG 2 (dCons (dC (.d .none)) (dCons (dNewDic) (dNil))) (gsCons (gN 5) (gsCons (gN 7) (gsNil))))
        (dNext)) <|
      dSeq (dIf (dTest (dVar 11))
        (dSeq (dPar 5 6 (dCons (dVar 10) (dCons (dOp rdIx (dVar 10) (dC (.d (.int 1)))) (dNil)))) <|
        dAsg (dCB rdDictPs (dCons (dLC (dItems (dOp rdIx (dVar 10) (dC (.d (.int 2))))) (gN 0) (dYes) (dTup (dCons (dOp rdIx (dVar 0) (dC (.d (.int 0)))) (dCons (dGet2 (dVar 1) (dOp rdIx (dVar 0) (dC (.d (.int 0)))) (dCB rdTupleOf (dCons (dSl (dVar 0) (dPart (dC (.d (.int 1)))) (dPart (dC (.d (.int 4))))) (dNil)))) (dNil)))) 1 [7]) (dNil))) (gN 7))
        (dNext)) <|
      t_tl
def dueA (S : Mst) : Act -> Bool
  | .take life turn _ _ => okT S life turn
  | _ => false
theorem ret_kind (S : Mst) (a : Act) : a.ret S = .none \/ ∃ y,a.ret S = .bool y := by
  cases a <;> first | exact .inl rfl | exact .inr ⟨_,rfl⟩
theorem rep_ok {n : Nat} (hn : n <= 4) {d : PyData} (h : d = .none \/ ∃ y,d = .bool y) : reprOk (.list (List.replicate n d)) = true := by
  have hn : n = 0 \/ n = 1 \/ n = 2 \/ n = 3 \/ n = 4 := by omega
  rcases h with rfl | ⟨y,rfl⟩
  · rcases hn with rfl | rfl | rfl | rfl | rfl <;> decide +kernel
  · cases y <;> rcases hn with rfl | rfl | rfl | rfl | rfl <;> decide +kernel
theorem one_ok {d : PyData} (h : d = .none \/ ∃ y,d = .bool y) : reprOk d = true := by
  rcases h with rfl | ⟨y,rfl⟩
  · decide +kernel
  · cases y <;> decide +kernel
theorem flat_rep (n : Nat) (d : PyData) : (List.replicate n [W.d d]).flatten = (List.replicate n d).map W.d := by
  induction n with
  | zero => rfl
  | succ n ih => rw [List.replicate_succ,List.flatten_cons,ih,List.replicate_succ]; rfl
theorem read_ck {M : MH} {n : Nat} {S : Mst} {a : Act} {D : Ed} {x0 x1 x2 x3 x4 x5 x6 x7 x8 x13 x14 x15 : Option W} (n1 : 1 <= n) (n4 : n <= 4)
    (k : ∀ M',Ext M M' -> D.nx [x0,x1,x2,x3,x4,x5,x6,x7,x8,some (.d (.int a.way)),some (.d a.thing),some (.d (.bool (dueA S a))),some (.d (.list (List.replicate n (a.ret S)))),x13,x14,x15] M') :
    t_ck D [x0,x1,x2,x3,x4,x5,x6,x7,x8,some (.d (.int a.way)),some (.d a.thing),some (.d (.bool (dueA S a))),some (.d (.list (List.replicate n (a.ret S)))),x13,x14,x15] M := by
  have s16' := s16
  have rk := ret_kind S a
  have ix : ∀ N : MH,ixW N (.d (.list (List.replicate n (a.ret S)))) 0 = some (.d (a.ret S)) := λ N => by
    obtain ⟨m,rfl⟩ : ∃ m,n = m + 1 := ⟨n - 1,by omega⟩
    rw [List.replicate_succ]
    simp [ixW,atI,ixN]
  refine ⟨_,rfl,_,_,rfl,.d,rep_ok n4 rk,_,rfl,0,_,rfl,ix M,rfl,few (by simp),λ p hp => ?_⟩
  have xp := Ext.new (o := .lst [W.d (a.ret S)]) hp
  refine ⟨_,rfl,_,_,rfl,rfl,rfl,p,_,_,rfl,rfl,updM_same,by omega,by rw [List.length_replicate]; omega,by simp,λ q hq => ?_⟩
  have xq := Ext.new (o := .lst (List.replicate (((List.replicate n (a.ret S)).length : Nat) : Int).toNat [W.d (a.ret S)]).flatten) hq
  have e1 : (List.replicate (((List.replicate n (a.ret S)).length : Nat) : Int).toNat [W.d (a.ret S)]).flatten = (List.replicate n (a.ret S)).map W.d := by
    rw [flat_rep,Int.toNat_natCast,List.length_replicate]
  refine ⟨_,.list (List.replicate n (a.ret S)),rfl,.l (by rw [updM_same,e1]),rep_ok n4 rk,_,_,.d,.d,rfl,_,rfl,?_⟩
  rw [eqv_str',decide_eq_true rfl]
  have x2 : Ext M (updM (updM M p (.lst [W.d (a.ret S)])) q (.lst (List.replicate (((List.replicate n (a.ret S)).length : Nat) : Int).toNat [W.d (a.ret S)]).flatten)) := λ y o e => xq y o (xp y o e)
  generalize updM (updM M p (.lst [W.d (a.ret S)])) q (.lst (List.replicate (((List.replicate n (a.ret S)).length : Nat) : Int).toNat [W.d (a.ret S)]).flatten) = M2 at x2 ⊢
  refine iteF ⟨_,rfl,_,_,.d,.d,rfl,_,rfl,?_⟩
  cases a with
  | take life turn rows lz =>
    refine iteT ⟨_,rfl,0,_,rfl,ix M2,rfl,_,_,rfl,.d,one_ok rk,_,rfl,_,_,rfl,.d,one_ok (.inr ⟨_,rfl⟩),_,_,.d,.d,rfl,_,rfl,?_⟩
    rw [eqv_str',decide_eq_true (show (Act.ret S (.take life turn rows lz)).shown = (PyData.bool (dueA S (.take life turn rows lz))).shown from rfl)]
    exact iteF (k M2 x2)
  | rise => exact iteF (iteF (k M2 x2))
  | fall => exact iteF (iteF (k M2 x2))
  | go => exact iteF (iteF (k M2 x2))
  | fail n => exact iteF (iteF (k M2 x2))
theorem cm_go (L : List Mc) : cm (L.map goC) = cm L := by
  unfold cm
  rw [List.map_map]
  refine List.map_congr_left λ c _ => ?_
  show ((.inl (goC c).num : Key),cameD (goC c)) = _
  have h : (goC c).num = c.num /\ (goC c).wish = c.wish /\ (goC c).kind = c.kind /\ (goC c).ed = c.ed := by
    unfold goC
    split
    · exact ⟨rfl,rfl,rfl,rfl⟩
    · split <;> exact ⟨rfl,rfl,rfl,rfl⟩
  unfold cameD
  rw [h.1,h.2.1,h.2.2.1,h.2.2.2]
theorem fail_same (n : Int) (c : Mc) : (if c.num = n then (if isA c = true then failC c else c) else c).num = c.num /\ cameD (if c.num = n then (if isA c = true then failC c else c) else c) = cameD c := by
  by_cases h1 : c.num = n
  · rw [if_pos h1]
    by_cases h2 : isA c = true
    · rw [if_pos h2]; exact ⟨rfl,rfl⟩
    · rw [if_neg h2]; exact ⟨rfl,rfl⟩
  · rw [if_neg h1]; exact ⟨rfl,rfl⟩
theorem cm_fail (L : List Mc) (n : Int) : cm (failL L n) = cm L /\ (failL L n).map Mc.num = L.map Mc.num := by
  unfold cm failL up1
  rw [List.map_map,List.map_map]
  refine ⟨List.map_congr_left λ c _ => ?_,List.map_congr_left λ c _ => (fail_same n c).1⟩
  show ((.inl (if c.num = n then (if isA c = true then failC c else c) else c).num : Key),cameD (if c.num = n then (if isA c = true then failC c else c) else c)) = _
  rw [(fail_same n c).1,(fail_same n c).2]
theorem Iv.newc {M M' : MH} {b f c c' : Addr} {ms : List (Addr × Addr)} {S : Mst} (I : Iv M b f c ms S) (x : Ext M M') (hc : M c' = none) : Iv M' b f c' ms S := by
  have I' := I.ext x
  refine ⟨I'.bag,I'.nf,I'.pm,I'.ns,I'.nd,λ h => ?_,I'.ok,I'.ne,I'.le⟩
  obtain ⟨y,hy,ey⟩ := List.mem_map.mp h
  have := (I.pm y hy).hd
  rw [ey,hc] at this
  cases this
theorem read_md {M : MH} {b f c : Addr} {ms : List (Addr × Addr)} {S : Mst} {a : Act} {D : Ed} {shd : PyData} {n : Nat} {x0 x8 x13 x14 x15 : Option W} (I : Iv M b f c ms (a.next S)) (o : OkS S) (hf : M f = some (.lst (msW ms))) (hc : M c = some (.dic (dataKV (cm S.L)))) (sh : Sh S shd) (ha : a.ok) (n1 : 1 <= n)
    (k : ∀ c' shd' M',Iv M' b f c' ms (a.next S) -> M' f = some (.lst (msW ms)) -> M' c' = some (.dic (dataKV (cm (a.next S).L))) -> Sh (a.next S) shd' ->
      t_tl D [x0,some (.m b),some (.m f),some (.d (.bool (a.next S).up)),some (.d (.int (a.next S).life)),some (.d shd'),some (.d (.int (a.next S).sheet)),some (.m c'),x8,some (.d (.int a.way)),some (.d a.thing),some (.d (.bool (dueA S a))),some (.d (.list (List.replicate n (a.ret S)))),x13,x14,x15] M') :
    t_md D [x0,some (.m b),some (.m f),some (.d (.bool S.up)),some (.d (.int S.life)),some (.d shd),some (.d (.int S.sheet)),some (.m c),x8,some (.d (.int a.way)),some (.d a.thing),some (.d (.bool (dueA S a))),some (.d (.list (List.replicate n (a.ret S)))),x13,x14,x15] M := by
  have s16' := s16
  have ix : ∀ N : MH,ixW N (.d (.list (List.replicate n (a.ret S)))) 0 = some (.d (a.ret S)) := λ N => by
    obtain ⟨m,rfl⟩ : ∃ m,n = m + 1 := ⟨n - 1,by omega⟩
    rw [List.replicate_succ]
    simp [ixW,atI,ixN]
  cases a with
  | rise =>
    refine ⟨_,rfl,_,_,.d,.d,rfl,_,rfl,iteT ⟨_,rfl,_,rfl,?_⟩⟩
    cases hu : S.up with
    | false =>
      obtain ⟨hL,hz⟩ := o.down hu
      have en : Act.next S .rise = { S with up := true,life := S.life + 1,sheet := 0 } := by show riseS S = _; unfold riseS; rw [hu,if_neg (by simp)]
      refine iteT ⟨_,rfl,.inl ⟨_,_,rfl,rfl,_,_,_,rfl,?_⟩⟩
      refine ⟨_,rfl,_,_,.d,.d,rfl,_,rfl,iteF ?_⟩
      refine ⟨_,rfl,_,_,rfl,rfl,_,rfl,iteT ⟨_,rfl,0,_,rfl,ix M,rfl,_,rfl,?_⟩⟩
      rw [hu]
      refine iteT (λ c' hc' => ⟨rfl,few (by simp),_,_,rfl,_,_,rfl,rfl,?_⟩)
      refine ⟨_,rfl,_,rfl,iteF ?_⟩
      have x' := Ext.new (o := .dic []) hc'
      have := k c' .none _ (I.newc x' hc') (x' _ _ hf) (by rw [en,updM_same]; show _ = some (MO.dic (dataKV (cm S.L))); rw [hL]; rfl) (by rw [en]; exact .inl ⟨rfl,hL,hz⟩)
      rw [en] at this
      exact this
    | true =>
      have en : Act.next S .rise = S := by show riseS S = _; unfold riseS; rw [hu,if_pos rfl]
      refine iteF ?_
      refine ⟨_,rfl,_,_,.d,.d,rfl,_,rfl,iteF ?_⟩
      refine ⟨_,rfl,_,_,rfl,rfl,_,rfl,iteT ⟨_,rfl,0,_,rfl,ix M,rfl,_,rfl,?_⟩⟩
      rw [hu]
      refine iteF ⟨_,rfl,_,rfl,iteF ?_⟩
      have := k c shd M I hf (by rw [en]; exact hc) (by rw [en]; exact sh)
      rw [en,hu] at this
      exact this
  | fall =>
    refine ⟨_,rfl,_,_,.d,.d,rfl,_,rfl,iteF (iteF ?_)⟩
    refine ⟨_,rfl,_,_,.d,.d,rfl,_,rfl,iteT ?_⟩
    refine ⟨_,rfl,_,_,rfl,rfl,_,rfl,iteT ⟨_,rfl,0,_,rfl,ix M,rfl,_,rfl,?_⟩⟩
    cases hu : S.up with
    | false =>
      have en : Act.next S .fall = S := by show (if S.up = true then downS S else S) = S; rw [hu,if_neg (by simp)]
      refine iteF ⟨_,rfl,_,rfl,iteF ?_⟩
      have := k c shd M I hf (by rw [en]; exact hc) (by rw [en]; exact sh)
      rw [en,hu] at this
      exact this
    | true =>
      have en : Act.next S .fall = downS S := by show (if S.up = true then downS S else S) = _; rw [hu,if_pos rfl]
      refine iteT (λ c' hc' => ⟨rfl,few (by simp),_,_,rfl,_,_,rfl,rfl,?_⟩)
      refine ⟨_,rfl,_,rfl,iteF ?_⟩
      have x' := Ext.new (o := .dic []) hc'
      have := k c' .none _ (I.newc x' hc') (x' _ _ hf) (by rw [en,updM_same]; rfl) (by rw [en]; exact .inl ⟨rfl,rfl,rfl⟩)
      rw [en] at this
      exact this
  | go =>
    refine ⟨_,rfl,_,_,.d,.d,rfl,_,rfl,iteF (iteF ?_)⟩
    refine ⟨_,rfl,_,_,.d,.d,rfl,_,rfl,iteF ?_⟩
    refine ⟨_,rfl,_,_,rfl,rfl,_,rfl,iteF (iteF ?_)⟩
    refine ⟨_,rfl,_,rfl,iteF ?_⟩
    refine k c shd M I hf (by show M c = some (.dic (dataKV (cm (S.L.map goC)))); rw [cm_go]; exact hc) ?_
    rcases sh with ⟨h1,h2,h3⟩ | ⟨l,t,rows,h1,h2⟩
    · exact .inl ⟨h1,by show S.L.map goC = []; rw [h2]; rfl,h3⟩
    · refine .inr ⟨l,t,rows,h1,?_⟩
      show _ = (S.L.map goC).map Mc.num
      rw [List.map_map,show (Mc.num ∘ goC) = Mc.num from funext goC_num]
      exact h2
  | fail m =>
    refine ⟨_,rfl,_,_,.d,.d,rfl,_,rfl,iteF (iteF ?_)⟩
    refine ⟨_,rfl,_,_,.d,.d,rfl,_,rfl,iteF ?_⟩
    refine ⟨_,rfl,_,_,rfl,rfl,_,rfl,iteF (iteF ?_)⟩
    refine ⟨_,rfl,_,rfl,iteF ?_⟩
    obtain ⟨e1,e2⟩ := cm_fail S.L m
    refine k c shd M I hf (by show M c = some (.dic (dataKV (cm (failL S.L m)))); rw [e1]; exact hc) ?_
    rcases sh with ⟨h1,h2,h3⟩ | ⟨l,t,rows,h1,h2⟩
    · exact .inl ⟨h1,by show failL S.L m = []; rw [h2]; rfl,h3⟩
    · exact .inr ⟨l,t,rows,h1,by show _ = (failL S.L m).map Mc.num; rw [e2]; exact h2⟩
  | take life turn rows lz =>
    obtain ⟨h1,h2,h3,h4⟩ := ha
    refine ⟨_,rfl,_,_,.d,.d,rfl,_,rfl,iteF (iteF ?_)⟩
    refine ⟨_,rfl,_,_,.d,.d,rfl,_,rfl,iteF ?_⟩
    refine ⟨_,rfl,_,_,rfl,rfl,_,rfl,iteF (iteF ?_)⟩
    refine ⟨_,rfl,_,rfl,?_⟩
    have ed : dueA S (.take life turn rows lz) = okT S life turn := rfl
    cases ho : okT S life turn with
    | false =>
      have en : Act.next S (.take life turn rows lz) = S := by show (if okT S life turn = true then _ else S) = S; rw [ho,if_neg (by simp)]
      have := k c shd M I hf (by rw [en]; exact hc) (by rw [en]; exact sh)
      rw [en,ed,ho] at this
      rw [ed,ho]
      exact iteF this
    | true =>
      have en : Act.next S (.take life turn rows lz) = { S with sheet := turn,L := takeL S.L rows,lz := lz } := by show (if okT S life turn = true then _ else S) = _; rw [ho,if_pos rfl]
      rw [ed,ho]
      refine iteT ⟨_,rfl,_,rfl,1,_,rfl,rfl,rfl,_,_,rfl,?_⟩
      refine ⟨_,rfl,2,_,rfl,rfl,rfl,_,rfl,?_⟩
      have hlr := h1.len
      refine lc_pure (λ w => match w with | .d (.tuple [.int n,.str wi,.str ki,.int e,_,_]) => some (.tuple [.int n,((fi S.L n).map cameD).getD (.tuple [.str wi,.str ki,.int e])]) | _ => none) (by rw [List.length_map,List.length_map]; omega) (λ w hw P' hp => ?_) ?_
      · obtain ⟨y,hy,rfl⟩ := List.mem_map.mp hw
        obtain ⟨r,hr',rfl⟩ := List.mem_map.mp hy
        refine ⟨_,rfl,0,_,rfl,rfl,rfl,_,rfl,.k hc,_,rfl,0,_,rfl,rfl,rfl,_,rfl,_,rfl,_,rfl,_,rfl,rfl,_,_,rfl,.t,_,.k (k := .inl r.num) hc,?_⟩
        rw [tget_cm]
        change P' (some (.tuple [.int r.num,((fi S.L r.num).map cameD).getD (.tuple [.str r.wish,.str r.kind,.int r.ed])])) at hp
        cases e : fi S.L r.num with
        | none =>
          rw [e] at hp
          exact ⟨_,rfl,few (by simp),_,rfl,rfl,hp⟩
        | some z =>
          rw [e] at hp
          exact ⟨_,rfl,few (by simp),_,rfl,rfl,hp⟩
      have e1 : List.filterMap (λ w => match w with | .d (.tuple [.int n,.str wi,.str ki,.int e,_,_]) => some (PyData.tuple [.int n,((fi S.L n).map cameD).getD (.tuple [.str wi,.str ki,.int e])]) | _ => none) ((rows.map rowD).map W.d) = (cm (takeL S.L rows)).map _root_.D.pairD := by
        unfold cm takeL
        rw [List.map_map,List.filterMap_map,List.map_map,List.map_map,<- List.filterMap_eq_map]
        refine congrArg (λ g => List.filterMap g rows) (funext λ r => ?_)
        show some (PyData.tuple [.int r.num,((fi S.L r.num).map cameD).getD (.tuple [.str r.wish,.str r.kind,.int r.ed])]) = some (_root_.D.pairD (.inl ((fi S.L r.num).getD r).num,cameD ((fi S.L r.num).getD r)))
        rw [getD_num]
        cases fi S.L r.num <;> rfl
      rw [e1]
      have nk : ((cm (takeL S.L rows)).map (·.1)).Nodup := by
        have e2 : (cm (takeL S.L rows)).map (·.1) = (rows.map Mc.num).map Sum.inl := by
          rw [<- takeL_num S.L rows]
          unfold cm
          simp
        rw [e2]
        exact List.Pairwise.map Sum.inl (λ a b h z => h (Sum.inl.inj z)) (asc_nd h1.asc)
      refine ⟨_,cm (takeL S.L rows),rfl,.d,nk,λ c' hc' => ?_⟩
      have x' := Ext.new (o := .dic (dataKV (cm (takeL S.L rows)))) hc'
      have := k c' (sheetD life turn rows lz) _ (I.newc x' hc') (x' _ _ hf) (by rw [en]; exact updM_same) (by rw [en]; exact .inr ⟨life,turn,rows,rfl,(takeL_num S.L rows).symm⟩)
      rw [en,ed,ho] at this
      exact this
theorem chr_asc : ∀ c < 128,∀ q,q = 34 \/ q = 39 -> ∀ x ∈ Builtin.Str.reprChar q c,x < 128 := by
  have h : ((List.range 128).all λ c => ([34,39] : List Nat).all λ q => (Builtin.Str.reprChar q c).all λ x => decide (x < 128)) = true := by decide +kernel
  intro c hc q hq x hx
  have h1 := List.all_eq_true.mp h c (List.mem_range.mpr hc)
  have h2 := List.all_eq_true.mp h1 q (by simpa using hq)
  exact of_decide_eq_true (List.all_eq_true.mp h2 x hx)
theorem fold_asc (q : Nat) (hq : q = 34 \/ q = 39) : ∀ (l : List Nat) (acc : Array Nat),(∀ c ∈ l,c < 128) -> (∀ c ∈ acc.toList,c < 128) -> ∀ c ∈ (l.foldl (λ out c => out ++ (Builtin.Str.reprChar q c).toArray) acc).toList,c < 128
  | [],acc,_,h => h
  | a :: l,acc,h1,h2 => by
    refine fold_asc q hq l _ (λ c hc => h1 c (by simp [hc])) λ c hc => ?_
    simp only [Array.toList_append,List.mem_append] at hc
    rcases hc with hc | hc
    · exact h2 c hc
    · exact chr_asc a (h1 a (by simp)) q hq c (by simpa using hc)
theorem repr_asc {z : Str} (h : Asc z) : Asc (reprText z) := by
  intro c hc
  have hq : reprQuote z = 34 \/ reprQuote z = 39 := by
    unfold reprQuote
    split
    · exact .inl rfl
    · exact .inr rfl
  have hc' : c ∈ ((z.cps.foldl (λ out c => out ++ (Builtin.Str.reprChar (reprQuote z) c).toArray) #[reprQuote z]).push (reprQuote z)).toList := hc
  rw [Array.toList_push,<- Array.foldl_toList] at hc'
  rcases List.mem_append.mp hc' with h1 | h1
  · refine fold_asc _ hq z.cps.toList _ h (λ x hx => ?_) c h1
    simp at hx
    rcases hq with hq | hq <;> omega
  · simp at h1
    rcases hq with hq | hq <;> omega
theorem asc_from : ∀ (ts : List Str) (k : Nat) (acc : Str),Asc acc -> (∀ t ∈ ts,Asc t) -> Asc (textFrom k acc ts)
  | [],_,_,h,_ => h
  | t :: ts,k,acc,h,h2 => by
    refine asc_from ts (k + 1) _ (asc_app (asc_app h ?_) (h2 t (by simp))) λ x hx => h2 x (by simp [hx])
    split <;> exact asc_dec (by decide +kernel)
theorem asc_join : ∀ ts : List Str,(∀ t ∈ ts,Asc t) -> Asc (Str.join ", " ts)
  | [],_ => asc_dec (by decide +kernel)
  | [x],h => h x (by simp)
  | x :: y :: r,h => by
    show Asc (x ++ ", " ++ Str.join ", " (y :: r))
    exact asc_app (asc_app (h x (by simp)) (asc_dec (by decide +kernel))) (asc_join (y :: r) λ t ht => h t (by simp [ht]))
theorem asc_list {ts : List Str} (h : ∀ t ∈ ts,Asc t) : Asc (listText ts) := asc_app (asc_from ts 0 _ (asc_dec (by decide +kernel)) h) (asc_dec (by decide +kernel))
theorem asc_tup {ts : List Str} (h : ∀ t ∈ ts,Asc t) : Asc (tupleText ts) := by
  unfold tupleText
  refine asc_app (asc_app (asc_dec (by decide +kernel)) (asc_join ts h)) ?_
  split <;> exact asc_dec (by decide +kernel)
mutual
theorem shown_asc : ∀ (k : Nat) (d : PyData),okD k d = true -> Asc d.shown
  | _,.none,_ => by rw [PyData.shown]; exact asc_dec (by decide +kernel)
  | _,.bool b,_ => by rw [PyData.shown]; cases b <;> exact asc_dec (by decide +kernel)
  | _,.int i,_ => λ c hc => by
    by_cases h : c < 128
    · exact h
    · exact absurd hc (shown_int_free' ⟨by omega,by omega⟩ i)
  | k,.str z,h => by
    rw [PyData.shown]
    exact repr_asc (asc_of_b (by cases k <;> simpa only [okD] using h))
  | k + 1,.list ds,h => by
    rw [PyData.shown]
    exact asc_list (shownA_asc k ds (by simpa only [okD] using h))
  | k + 1,.tuple ds,h => by
    rw [PyData.shown]
    exact asc_tup (shownA_asc k ds (by simpa only [okD] using h))
  | 0,.list ds,h => by simp [okD] at h
  | 0,.tuple ds,h => by simp [okD] at h
  | k,.dict kvs,h => by cases k <;> simp [okD] at h
theorem shownA_asc : ∀ (k : Nat) (ds : List PyData),okA k ds = true -> ∀ t ∈ PyData.shownAll ds,Asc t
  | _,[],_,t,ht => by simp [PyData.shownAll] at ht
  | k,d :: ds,h,t,ht => by
    simp only [okA,Bool.and_eq_true] at h
    simp only [PyData.shownAll,List.mem_cons] at ht
    rcases ht with rfl | ht
    · exact shown_asc k d h.1
    · exact shownA_asc k ds h.2 t ht
end
theorem ix_ms {ms : List (Addr × Addr)} {f : Addr} {r : Int} (h0 : 0 <= r) (h1 : r < ms.length) : ∃ x ∈ ms,∀ M : MH,M f = some (.lst (msW ms)) -> ixW M (.m f) r = some (.m x.1) := by
  have hi : r.toNat < ms.length := by omega
  refine ⟨ms[r.toNat],List.getElem_mem hi,λ M h => ix_m h ?_⟩
  unfold atI
  rw [ixN_nat h0 (by rw [List.length_map]; exact h1)]
  simp [hi]
theorem reps_ok {z : Str} (h : Asc z) (n : Nat) : okD 1 (.list (List.replicate n (.str z))) = true := by
  simp only [okD]
  refine okA_of λ d hd => ?_
  rw [List.eq_of_mem_replicate hd]
  simp only [okD]
  exact asc_b h
theorem seen_asc {S : Mst} {turn : Int} (o : OkS S) (t0 : 0 <= turn) (t1 : turn <= 100000000) : Asc (seenD S turn).shown := shown_asc 4 _ (seen_okD o t0 t1)
theorem still_ext {M M' : MH} {f : Addr} {w : List W} (hf : M f = some (.lst w)) (x : Ext (updM M f (.flst w)) M') : Ext M (updM M' f (.lst w)) := λ q o e => by
  by_cases h : q = f
  · rw [h,updM_same]
    rw [h,hf] at e
    exact e
  · rw [updM_ne h]
    exact x q o (by rw [updM_ne h]; exact e)
def t_t2 : TSd :=
      dSeq (dStillLS (dAsg (dLC (dItemsF (dVar 2)) (gN 0) (dYes) (dCall sp_l_seen (dCons (dVar 0) (dCons (dVar 1) (dNil)))) 1 [8]) (gN 13))) <|
      dIf (dOr (dTest (dOp rdNeT (dVar 13) (dOp rdRep (dLstM (dCons (dOp rdIx (dVar 13) (dC (.d (.int 0)))) (dNil))) (dCB rdLen (dCons (dVar 13) (dNil)))))) (dNot (dTest (dCall sp_l_right (dCons (dOp rdIx (dVar 2) (dC (.d (.int 0)))) (dCons (dVar 7) (dCons (dVar 5) (dNil))))))))
        (dRet (dC (.d (.bool false))))
        (dNext)
theorem read_t2 {M : MH} {b f c : Addr} {ms : List (Addr × Addr)} {S : Mst} {D : Ed} {shd : PyData} {turn : Int} {x0 x3 x4 x6 x9 x10 x11 x12 x13 x14 x15 : Option W} (I : Iv M b f c ms S) (hf : M f = some (.lst (msW ms))) (hc : M c = some (.dic (dataKV (cm S.L)))) (sh : Sh S shd) (t0 : 0 <= turn) (t1 : turn <= 1000)
    (k : ∀ M' y13,Ext M M' -> D.nx [x0,some (.m b),some (.m f),x3,x4,some (.d shd),x6,some (.m c),some (.d (.int turn)),x9,x10,x11,x12,y13,x14,x15] M') :
    t_t2 D [x0,some (.m b),some (.m f),x3,x4,some (.d shd),x6,some (.m c),some (.d (.int turn)),x9,x10,x11,x12,x13,x14,x15] M := by
  have s16' := s16
  have ne1 := I.ne
  have le4 := I.le
  have I1 := I.updf hf (.flst (msW ms))
  have en : (msW ms).length = ms.length := by simp
  refine ⟨f,_,hf,_,rfl,f,_,rfl,updM_same,?_⟩
  refine ⟨λ i acc τ M' => i <= ms.length /\ acc = List.replicate i (.str (seenD S turn).shown) /\ Ext (updM M f (.flst (msW ms))) M' /\ ∃ x,τ = [x,some (.d (.int turn))],⟨Nat.zero_le _,rfl,λ _ _ e => e,_,rfl⟩,?_,?_⟩
  · rintro i w acc τ M' hw ⟨hi,rfl,x1,x,rfl⟩
    have hi' : i < ms.length := by
      have := (List.getElem?_eq_some_iff.mp hw).1
      simpa using this
    have e1 : ms[i]? = some ms[i] := List.getElem?_eq_getElem hi'
    rw [List.getElem?_map,e1] at hw
    cases hw
    have I2 := I1.ext x1
    refine ⟨by rw [List.length_replicate]; omega,_,rfl,_,rfl,ms[i].1,ms[i].2,S,turn,rfl,I2.pm _ (List.getElem_mem hi'),I.ok,t0,by omega,λ M2 x2 => ⟨_,rfl,hi',?_,λ q o e => x2 q o (x1 q o e),_,rfl⟩⟩
    rw [List.replicate_succ']
  · rintro acc τ M1 ⟨hi,rfl,x1,x,rfl⟩
    rw [en]
    refine ⟨x1 f _ updM_same,?_⟩
    have xM := still_ext hf x1
    generalize updM M1 f (.lst (msW ms)) = M2 at xM ⊢
    have I2 := I.ext xM
    have hf2 := xM f _ hf
    have hc2 := xM c _ hc
    have ix : ∀ N : MH,ixW N (.d (.list (List.replicate ms.length (.str (seenD S turn).shown)))) 0 = some (.d (.str (seenD S turn).shown)) := λ N => by
      obtain ⟨m,hm⟩ : ∃ m,ms.length = m + 1 := ⟨ms.length - 1,by omega⟩
      rw [hm,List.replicate_succ]
      simp [ixW,atI,ixN]
    refine ⟨_,rfl,_,rfl,0,_,rfl,ix M2,rfl,few (by simp),λ p hp => ?_⟩
    have xp := Ext.new (o := .lst [W.d (.str (seenD S turn).shown)]) hp
    refine ⟨_,rfl,_,_,rfl,rfl,rfl,p,_,_,rfl,rfl,updM_same,by omega,by rw [List.length_replicate]; omega,by simp,λ q hq => ?_⟩
    have xq := Ext.new (o := .lst (List.replicate (((List.replicate ms.length (PyData.str (seenD S turn).shown)).length : Nat) : Int).toNat [W.d (.str (seenD S turn).shown)]).flatten) hq
    have e1 : (List.replicate (((List.replicate ms.length (PyData.str (seenD S turn).shown)).length : Nat) : Int).toNat [W.d (.str (seenD S turn).shown)]).flatten = (List.replicate ms.length (PyData.str (seenD S turn).shown)).map W.d := by
      rw [flat_rep,Int.toNat_natCast,List.length_replicate]
    have eo := reps_ok (seen_asc I.ok t0 (by omega : turn <= 100000000)) ms.length
    refine ⟨_,_,.d,.l (ds := List.replicate ms.length (.str (seenD S turn).shown)) (by rw [updM_same,e1]),eqOk2_of (by decide) eo eo,_,rfl,?_⟩
    rw [refl_of eo]
    have x3 : Ext M2 (updM (updM M2 p (.lst [W.d (.str (seenD S turn).shown)])) q (.lst (List.replicate (((List.replicate ms.length (PyData.str (seenD S turn).shown)).length : Nat) : Int).toNat [W.d (.str (seenD S turn).shown)]).flatten)) := λ y o e => xq y o (xp y o e)
    generalize updM (updM M2 p (.lst [W.d (.str (seenD S turn).shown)])) q (.lst (List.replicate (((List.replicate ms.length (PyData.str (seenD S turn).shown)).length : Nat) : Int).toNat [W.d (.str (seenD S turn).shown)]).flatten) = M3 at x3 ⊢
    have I3 := I2.ext x3
    obtain ⟨y,hy,ey⟩ := ix_ms (ms := ms) (f := f) (r := 0) (by decide) (by omega)
    refine iteF ⟨_,rfl,0,_,rfl,ey M3 (x3 _ _ hf2),rfl,_,rfl,_,rfl,y.1,y.2,c,S,shd,rfl,I3.pm y hy,I.ok,x3 _ _ hc2,sh,λ M4 x4 => ⟨_,rfl,iteF (k M4 _ λ z o e => x4 z o (x3 z o (xM z o e)))⟩⟩
theorem read_tl {M : MH} {b f c : Addr} {ms : List (Addr × Addr)} {S : Mst} {D : Ed} {shd : PyData} {turn : Int} {x0 x3 x4 x6 x9 x10 x11 x12 x13 x14 x15 : Option W} (I : Iv M b f c ms S) (hf : M f = some (.lst (msW ms))) (hc : M c = some (.dic (dataKV (cm S.L)))) (sh : Sh S shd) (t0 : 0 <= turn) (t1 : turn <= 1000)
    (k : ∀ ms' M' y13,Iv M' b f c ms' S -> M' f = some (.lst (msW ms')) -> M' c = some (.dic (dataKV (cm S.L))) -> D.nx [x0,some (.m b),some (.m f),x3,x4,some (.d shd),x6,some (.m c),some (.d (.int turn)),x9,x10,x11,x12,y13,x14,x15] M') :
    t_tl D [x0,some (.m b),some (.m f),x3,x4,some (.d shd),x6,some (.m c),some (.d (.int turn)),x9,x10,x11,x12,x13,x14,x15] M := by
  have s16' := s16
  have ne1 := I.ne
  have le4 := I.le
  have en : (msW ms).length = ms.length := by simp
  have cb : c ≠ b := by
    obtain ⟨a1,a2,a3,a4,hb,_⟩ := id I.bag
    exact ne_M hc hb (by intro z; cases z)
  have go : ∀ (ms' : List (Addr × Addr)) (M1 : MH),Iv M1 b f c ms' S -> M1 f = some (.lst (msW ms')) -> M1 c = some (.dic (dataKV (cm S.L))) -> t_t2 D [x0,some (.m b),some (.m f),x3,x4,some (.d shd),x6,some (.m c),some (.d (.int turn)),x9,x10,x11,x12,x13,x14,x15] M1 :=
    λ ms' M1 I1 hf1 hc1 => read_t2 I1 hf1 hc1 sh t0 t1 λ M' y13 x => k ms' M' y13 (I1.ext x) (x _ _ hf1) (x _ _ hc1)
  refine ⟨_,rfl,_,_,rfl,len_m hf,rfl,_,_,rfl,rfl,_,rfl,?_⟩
  refine ite_b (λ hlt => ?_) (λ _ => iteF (go ms M I hf hc))
  have hlt3 : ms.length < 4 := by have := of_decide_eq_true hlt; rw [en] at this; omega
  refine ⟨_,rfl,b,8,rfl,I.bag,by decide,by decide,λ r M1 r0 r1 b1 f1 => ⟨_,_,.d,.d,rfl,_,rfl,?_⟩⟩
  have F1 := Fr.of_eq f1
  have I1 := I.frb F1 b1
  have hf1 := F1 f _ hf (by simpa using I.nf)
  have hc1 := F1 c _ hc (by simpa using cb)
  refine ite_b (λ _ => ?_) (λ _ => go ms M1 I1 hf1 hc1)
  refine ⟨_,rfl,f,_,rfl,hf1,_,rfl,_,rfl,_,rfl,_,_,rfl,len_m hf1,rfl,b,_,rfl,b1,by rw [en]; omega,by rw [en]; omega,λ r2 M2 r20 r21 b2 f2 => ?_⟩
  have F2 := Fr.of_eq f2
  have I2 := I1.frb F2 b2
  have hf2 := F2 f _ hf1 (by simpa using I.nf)
  have hc2 := F2 c _ hc1 (by simpa using cb)
  obtain ⟨y,hy,ey⟩ := ix_ms (ms := ms) (f := f) (r := r2) r20 (by rw [en] at r21; exact r21)
  refine ⟨r2,_,rfl,ey M2 hf2,rfl,y.1,_,rfl,(I2.pm y hy).hs,lk_copied,y.1,y.2, "ma",6,S,rfl,I2.pm y hy,λ s' d' M3 hs' hd' P' x3 => ⟨_,x3 _ _ hf2,by rw [en]; omega,?_⟩⟩
  have I3 := I2.ext x3
  have sf : s' ≠ f := λ z => by rw [z,hf2] at hs'; cases hs'
  have df : d' ≠ f := λ z => by rw [z,hf2] at hd'; cases hd'
  have cf : c ≠ f := ne_M hc2 hf2 (by intro z; cases z)
  have I4 := I3.updf (x3 _ _ hf2) (.lst (msW ms ++ [W.m s']))
  refine go (ms ++ [(s',d')]) _ ⟨I4.bag,I4.nf,λ x hx => ?_,?_,?_,?_,I.ok,by simp,by simp; omega⟩ (by rw [updM_same]; simp) (by rw [updM_ne cf]; exact x3 _ _ hc2)
  · rcases List.mem_append.mp hx with h | h
    · exact I4.pm x h
    · simp at h
      rw [h]
      exact ⟨by rw [updM_ne sf]; exact P'.hs,by rw [updM_ne df]; exact P'.hd⟩
  · rw [List.map_append]
    refine List.nodup_append.mpr ⟨I.ns,by simp,λ a ha z hz => ?_⟩
    simp at hz
    obtain ⟨x,hx,rfl⟩ := List.mem_map.mp ha
    rw [hz]
    exact ne_new (I2.pm x hx).hs hs'
  · rw [List.map_append]
    refine List.nodup_append.mpr ⟨I.nd,by simp,λ a ha z hz => ?_⟩
    simp at hz
    obtain ⟨x,hx,rfl⟩ := List.mem_map.mp ha
    rw [hz]
    exact ne_new (I2.pm x hx).hd hd'
  · rw [List.map_append]
    intro h
    rcases List.mem_append.mp h with h | h
    · exact I.nc h
    · simp at h
      exact ne_new hc2 hd' h
def t_fin : TSd :=
    dSeq (dAsg (dLC (dItemsN (dSlW (dVar 2) (dPart (dC (.d (.int 1)))) (dNoPart))) (gN 0) (dYes) (dCall sp_l_seen (dCons (dVar 0) (dCons (dC (.d (.int 99))) (dNil)))) 1 []) (gN 14)) <|
    dSeq (dFor (dRng2 (dCons (dC (.d (.int 1))) (dCons (dC (.d (.int 13))) (dNil)))) (gN 15)
      (dDrop (dMeth C_Machine "fail" sp_Machine_fail (dOp rdIx (dVar 2) (dC (.d (.int 0)))) (dCons (dVar 15) (dNil))))) <|
    dSeq (dFor (dRng1 (dCons (dC (.d (.int 3))) (dNil))) (gN 8)
      (dSeq (dDrop (dMeth C_Machine "go_on" sp_Machine_go_on (dOp rdIx (dVar 2) (dC (.d (.int 0)))) dNil)) <|
      dIf (dTest (dOp rdNeT (dLC (dItemsN (dSlW (dVar 2) (dPart (dC (.d (.int 1)))) (dNoPart))) (gN 0) (dYes) (dCall sp_l_seen (dCons (dVar 0) (dCons (dC (.d (.int 99))) (dNil)))) 1 []) (dVar 14)))
        (dRet (dC (.d (.bool false))))
        (dNext))) <|
    dSeq (dDrop (dMeth C_Machine "rise" sp_Machine_rise (dOp rdIx (dVar 2) (dC (.d (.int 0)))) dNil)) <|
    dSeq (dDrop (dMeth C_Machine "take" sp_Machine_take (dOp rdIx (dVar 2) (dC (.d (.int 0)))) (dCons (dTup (dCons (dMeth C_Machine "life" sp_Machine_life (dOp rdIx (dVar 2) (dC (.d (.int 0)))) dNil) (dCons (dOp rdPow (dC (.d (.int 10))) (dC (.d (.int 6)))) (dCons (dLst (dNil)) (dCons (dLst (dNil)) (dNil)))))) (dNil)))) <|
    dSeq (dDrop (dMeth C_Machine "fall" sp_Machine_fall (dOp rdIx (dVar 2) (dC (.d (.int 0)))) dNil)) <|
    dRet (dOp rdEqT (dLC (dItemsN (dSlW (dVar 2) (dPart (dC (.d (.int 1)))) (dNoPart))) (gN 0) (dYes) (dCall sp_l_seen (dCons (dVar 0) (dCons (dC (.d (.int 99))) (dNil)))) 1 []) (dVar 14))
abbrev t_kp : TD := dLC (dItemsN (dSlW (dVar 2) (dPart (dC (.d (.int 1)))) (dNoPart))) (gN 0) (dYes) (dCall sp_l_seen (dCons (dVar 0) (dCons (dC (.d (.int 99))) (dNil)))) 1 []
theorem cut_tail {α : Type} (x : α) (xs : List α) : _root_.D.cutD (x :: xs) (some 1) none = xs := by
  unfold _root_.D.cutD
  have e1 : HT.sIx (x :: xs).length 0 (some 1) = 1 := by
    unfold HT.sIx
    simp
  have e2 : HT.sIx (x :: xs).length (x :: xs).length none = (x :: xs).length := rfl
  rw [e1,e2]
  simp
structure Fn1 (M : MH) (f s0 d0 : Addr) (rest : List (Addr × Addr)) (S S0 : Mst) : Prop where
  hf : M f = some (.lst (msW ((s0,d0) :: rest)))
  p0 : Pm M s0 d0 "ma" 6 S0
  pr : ∀ x ∈ rest,Pm M x.1 x.2 "ma" 6 S
  os : OkS S
  n1 : ∀ x ∈ rest,x.1 ≠ s0
  n2 : ∀ x ∈ rest,x.2 ≠ d0
  le : rest.length <= 3
theorem Fn1.ext {M M' : MH} {f s0 d0 : Addr} {rest : List (Addr × Addr)} {S S0 : Mst} (I : Fn1 M f s0 d0 rest S S0) (x : Ext M M') : Fn1 M' f s0 d0 rest S S0 :=
  ⟨x _ _ I.hf,I.p0.keep (Fr.of_ext x []) (by simp) (by simp),λ y hy => (I.pr y hy).keep (Fr.of_ext x []) (by simp) (by simp),I.os,I.n1,I.n2,I.le⟩
theorem Fn1.step {M M' : MH} {f s0 d0 d1 : Addr} {rest : List (Addr × Addr)} {S S0 S1 : Mst} (I : Fn1 M f s0 d0 rest S S0) (hd : d1 = d0 \/ M d1 = none) (P : Pm M' s0 d1 "ma" 6 S1) (F : Fr M M' [s0,d0]) : Fn1 M' f s0 d1 rest S S1 := by
  have hfn : f ∉ [s0,d0] := by
    simp only [List.mem_cons,List.not_mem_nil,or_false,not_or]
    exact ⟨ne_M I.hf I.p0.hs (by intro z; cases z),ne_M I.hf I.p0.hd (by intro z; cases z)⟩
  refine ⟨F _ _ I.hf hfn,P,λ y hy => (I.pr y hy).keep F ?_ ?_,I.os,I.n1,λ y hy => ?_,I.le⟩
  · simp only [List.mem_cons,List.not_mem_nil,or_false,not_or]
    exact ⟨I.n1 y hy,ne_M (I.pr y hy).hs I.p0.hd (by intro z; cases z)⟩
  · simp only [List.mem_cons,List.not_mem_nil,or_false,not_or]
    exact ⟨ne_M (I.pr y hy).hd I.p0.hs (by intro z; cases z),I.n2 y hy⟩
  · rcases hd with rfl | hn
    · exact I.n2 y hy
    · exact ne_new (I.pr y hy).hd hn
theorem read_kp {M : MH} {f s0 d0 : Addr} {rest : List (Addr × Addr)} {S S0 : Mst} {Q : QD} {τ : DS} (I : Fn1 M f s0 d0 rest S S0) (hτ : τ[2]? = some (some (.m f)))
    (k : ∀ M',Ext M M' -> Q (.d (.list (List.replicate rest.length (.str (seenD S 99).shown)))) M') : t_kp τ M Q := by
  have s16' := s16
  have le3 := I.le
  refine ⟨_,hτ,_,rfl,f,_,rfl,I.hf,λ g hg => ⟨g,_,rfl,updM_same,?_⟩⟩
  rw [show _root_.D.cutD (msW ((s0,d0) :: rest)) (some 1) none = msW rest from cut_tail _ _]
  rw [updM_updM]
  have x0 := Ext.new (o := .flst (msW rest)) hg
  have en : (msW rest).length = rest.length := by simp
  refine ⟨λ i acc τ M' => i <= rest.length /\ acc = List.replicate i (.str (seenD S 99).shown) /\ Ext M M' /\ ∃ x,τ = [x],⟨Nat.zero_le _,rfl,x0,_,rfl⟩,?_,?_⟩
  · rintro i w acc τ M' hw ⟨hi,rfl,x1,x,rfl⟩
    have hi' : i < rest.length := by
      have := (List.getElem?_eq_some_iff.mp hw).1
      simpa using this
    have e1 : rest[i]? = some rest[i] := List.getElem?_eq_getElem hi'
    rw [List.getElem?_map,e1] at hw
    cases hw
    have I1 := I.ext x1
    refine ⟨by rw [List.length_replicate]; omega,_,rfl,rest[i].1,rest[i].2,S,99,rfl,I1.pr _ (List.getElem_mem hi'),I.os,by decide,by decide,λ M2 x2 => ⟨_,rfl,hi',?_,λ q o e => x2 q o (x1 q o e),_,rfl⟩⟩
    rw [List.replicate_succ']
  · rintro acc τ M' ⟨hi,rfl,x1,x,rfl⟩
    rw [en]
    exact k M' x1
theorem kp_ok {S : Mst} (o : OkS S) (n : Nat) : okD 1 (.list (List.replicate n (.str (seenD S 99).shown))) = true := reps_ok (seen_asc o (by decide) (by decide)) n
theorem ix0 {M : MH} {f s0 d0 : Addr} {rest : List (Addr × Addr)} (h : M f = some (.lst (msW ((s0,d0) :: rest)))) : ixW M (.m f) 0 = some (.m s0) := by
  simp only [ixW,h]
  simp [atI,ixN]
theorem asg_of {t : TD} {g : TGd} {r : TSd} {D : Ed} {τ : DS} {M : MH} (h : t τ M λ w M1 => g w τ M1 (r D)) : dSeq (dAsg t g) r D τ M := h
theorem if_of {t : TD} {rd : W -> W -> MH -> QD -> Prop} {u : TD} {a b : TSd} {D : Ed} {τ : DS} {M : MH} (h : t τ M λ w M1 => u τ M1 λ w' M2 => rd w w' M2 λ x M3 => ∃ k,x = .d (.bool k) /\ if k = true then a D τ M3 else b D τ M3) : dIf (dTest (dOp rd t u)) a b D τ M := h
theorem ret_of {t u : TD} {rd : W -> W -> MH -> QD -> Prop} {D : Ed} {τ : DS} {M : MH} (h : t τ M λ w M1 => u τ M1 λ w' M2 => rd w w' M2 D.rt) : dRet (dOp rd t u) D τ M := h
theorem read_fin {M : MH} {f s0 d0 : Addr} {rest : List (Addr × Addr)} {S : Mst} {D : Ed} {x0 x1 x3 x4 x5 x6 x7 x8 x9 x10 x11 x12 x13 x14 x15 : Option W} (I : Fn1 M f s0 d0 rest S S) (k : ∀ M',D.rt (.d (.bool true)) M') :
    t_fin D [x0,x1,some (.m f),x3,x4,x5,x6,x7,x8,x9,x10,x11,x12,x13,x14,x15] M := by
  have s16' := s16
  refine asg_of (read_kp (τ := [x0,x1,some (.m f),x3,x4,x5,x6,x7,x8,x9,x10,x11,x12,x13,x14,x15]) I rfl λ M1 y1 => ?_)
  have I1 := I.ext y1
  have ok := kp_ok I.os rest.length
  refine ⟨1,13,rfl,⟨by decide,by decide,by decide,by decide⟩,?_⟩
  refine ⟨λ i τ M' => ∃ d1 S1 y8 y15,Fn1 M' f s0 d1 rest S S1 /\ OkS S1 /\ τ = [x0,x1,some (.m f),x3,x4,x5,x6,x7,y8,x9,x10,x11,x12,x13,some (.d (.list (List.replicate rest.length (.str (seenD S 99).shown)))),y15],⟨d0,S,_,_,I1,I.os,rfl⟩,?_,?_⟩
  · rintro i w τ M2 hw ⟨d1,S1,y8,y15,I2,o2,rfl⟩
    obtain ⟨n,rfl⟩ : ∃ n : Int,w = W.d (.int n) := by
      have hm := List.mem_of_getElem? hw
      unfold rangeW at hm
      obtain ⟨n,h1,h2⟩ := List.mem_map.mp hm
      exact ⟨_,h2.symm⟩
    have l6 := o2.len
    exact ⟨_,rfl,0,_,rfl,ix0 I2.hf,rfl,s0,_,rfl,I2.p0.hs,lk_fail,_,rfl,s0,d1, "ma",6,S1,n,rfl,I2.p0,asc_nd o2.asc,by omega,λ M3 P3 F3 => ⟨d1,_,_,_,I2.step (.inl rfl) P3 (F3.mono (by simp)),o2.fail n,rfl⟩⟩
  rintro τ M2 ⟨d1,S1,y8,y15,I2,o2,rfl⟩
  refine ⟨3,rfl,by decide,by decide,?_⟩
  refine ⟨λ i τ M' => ∃ d1 S1 y8 y15,Fn1 M' f s0 d1 rest S S1 /\ OkS S1 /\ τ = [x0,x1,some (.m f),x3,x4,x5,x6,x7,y8,x9,x10,x11,x12,x13,some (.d (.list (List.replicate rest.length (.str (seenD S 99).shown)))),y15],⟨d1,S1,_,_,I2,o2,rfl⟩,?_,?_⟩
  · rintro i w τ M3 hw ⟨d2,S2,y8,y15,I3,o3,rfl⟩
    have l6 := o3.len
    refine ⟨_,rfl,0,_,rfl,ix0 I3.hf,rfl,s0,_,rfl,I3.p0.hs,lk_go_on,s0,d2, "ma",6,S2,rfl,I3.p0,asc_nd o3.asc,by omega,λ d3 M4 hd3 P4 F4 => ?_⟩
    have I4 := I3.step (.inr hd3) P4 (F4.mono (by simp))
    refine if_of (read_kp (τ := [x0,x1,some (.m f),x3,x4,x5,x6,x7,some w,x9,x10,x11,x12,x13,some (.d (.list (List.replicate rest.length (.str (seenD S 99).shown)))),y15]) I4 rfl λ M5 y5 => ⟨_,rfl,_,_,.d,.d,eqOk2_of (by decide) ok ok,_,rfl,?_⟩)
    rw [refl_of ok]
    exact iteF ⟨d3,_,_,_,I4.ext y5,o3.go,rfl⟩
  rintro τ M3 ⟨d2,S2,y8,y15,I3,o3,rfl⟩
  refine ⟨_,rfl,0,_,rfl,ix0 I3.hf,rfl,s0,_,rfl,I3.p0.hs,lk_rise,s0,d2, "ma",6,S2,rfl,I3.p0,λ M4 P4 F4 => ?_⟩
  have I4 := I3.step (.inl rfl) P4 (F4.mono (by simp))
  refine ⟨_,rfl,0,_,rfl,ix0 I4.hf,rfl,s0,_,rfl,I4.p0.hs,lk_take,?_⟩
  refine ⟨_,rfl,0,_,rfl,ix0 I4.hf,rfl,s0,_,rfl,I4.p0.hs,lk_life,s0,d2, "ma",6,riseS S2,rfl,I4.p0,?_⟩
  refine ⟨_,_,rfl,rfl,⟨by decide,by decide⟩,?_⟩
  refine ⟨_,rfl,few (by simp),_,rfl,few (by simp),_,rfl,few (by simp),?_⟩
  have fall : ∀ (d3 : Addr) (S3 : Mst) (M5 : MH),Fn1 M5 f s0 d3 rest S S3 -> (dSeq (dDrop (dMeth C_Machine "fall" sp_Machine_fall (dOp rdIx (dVar 2) (dC (.d (.int 0)))) dNil)) <|
    dRet (dOp rdEqT t_kp (dVar 14))) D [x0,x1,some (.m f),x3,x4,x5,x6,x7,y8,x9,x10,x11,x12,x13,some (.d (.list (List.replicate rest.length (.str (seenD S 99).shown)))),y15] M5 := by
    intro d3 S3 M5 I5
    have last : ∀ (d4 : Addr) (S4 : Mst) (M6 : MH),Fn1 M6 f s0 d4 rest S S4 -> dRet (dOp rdEqT t_kp (dVar 14)) D [x0,x1,some (.m f),x3,x4,x5,x6,x7,y8,x9,x10,x11,x12,x13,some (.d (.list (List.replicate rest.length (.str (seenD S 99).shown)))),y15] M6 := by
      intro d4 S4 M6 I6
      refine ret_of (read_kp (τ := [x0,x1,some (.m f),x3,x4,x5,x6,x7,y8,x9,x10,x11,x12,x13,some (.d (.list (List.replicate rest.length (.str (seenD S 99).shown)))),y15]) I6 rfl λ M7 y7 => ⟨_,rfl,_,_,.d,.d,eqOk2_of (by decide) ok ok,?_⟩)
      rw [refl_of ok]
      exact k M7
    refine ⟨_,rfl,0,_,rfl,ix0 I5.hf,rfl,s0,_,rfl,I5.p0.hs,lk_fall,s0,d3, "ma",6,S3,rfl,I5.p0,λ _ => last d3 S3 M5 I5,λ _ d4 M6 hd4 P6 F6 => last d4 _ M6 (I5.step (.inr hd4) P6 (F6.mono (by simp)))⟩
  exact ⟨s0,d2, "ma",6,riseS S2,(riseS S2).life,10 ^ 6,[],[],rfl,I4.p0,.nil,by simp,(λ r hr => by cases hr),λ _ => fall d2 _ M4 I4,λ _ d3 M5 hd3 P5 F5 => fall d3 _ M5 (I4.step (.inr hd3) P5 (F5.mono (by simp)))⟩
theorem next_life (S : Mst) (a : Act) : (a.next S).life <= S.life + 1 := by
  cases a with
  | rise =>
    show (riseS S).life <= _
    unfold riseS
    split
    · omega
    · exact Int.le_refl _
  | fall =>
    show (if S.up = true then downS S else S).life <= _
    split
    · show S.life <= _; omega
    · omega
  | go => show S.life <= _; omega
  | fail n => show S.life <= _; omega
  | take life turn rows lz =>
    show (if okT S life turn = true then _ else S).life <= _
    split
    · show S.life <= _; omega
    · omega
abbrev t_due : TD := dAndV (dOp rdEqT (dVar 9) (dC (.d (.int 3)))) (dAndV (dVar 3) (dAndV (dOp rdEqT (dOp rdIx (dVar 10) (dC (.d (.int 0)))) (dVar 4)) (dOp rdGt (dOp rdIx (dVar 10) (dC (.d (.int 1)))) (dVar 6))))
theorem read_due {M : MH} {S : Mst} {a : Act} {P : QD} {x0 x1 x2 x5 x7 x8 x11 x12 x13 x14 x15 : Option W} (q : P (.d (.bool (dueA S a))) M) :
    t_due [x0,x1,x2,some (.d (.bool S.up)),some (.d (.int S.life)),x5,some (.d (.int S.sheet)),x7,x8,some (.d (.int a.way)),some (.d a.thing),x11,x12,x13,x14,x15] M P := by
  cases a with
  | rise => exact ⟨_,rfl,_,_,.d,.d,rfl,_,rfl,iteF q⟩
  | fall => exact ⟨_,rfl,_,_,.d,.d,rfl,_,rfl,iteF q⟩
  | go => exact ⟨_,rfl,_,_,.d,.d,rfl,_,rfl,iteF q⟩
  | fail n => exact ⟨_,rfl,_,_,.d,.d,rfl,_,rfl,iteF q⟩
  | take life turn rows lz =>
    have q' : P (.d (.bool (S.up && decide (life = S.life) && decide (S.sheet < turn)))) M := q
    refine ⟨_,rfl,_,_,.d,.d,rfl,_,rfl,iteT ⟨_,rfl,_,rfl,?_⟩⟩
    cases hu : S.up with
    | false =>
      rw [hu] at q'
      exact iteF q'
    | true =>
      rw [hu] at q'
      refine iteT ⟨_,rfl,0,_,rfl,rfl,rfl,_,rfl,_,_,.d,.d,rfl,_,rfl,?_⟩
      rw [eqv_int']
      by_cases hl : life = S.life
      · rw [decide_eq_true hl] at q' ⊢
        refine iteT ⟨_,rfl,1,_,rfl,rfl,rfl,_,rfl,_,_,rfl,rfl,?_⟩
        exact q'
      · rw [decide_eq_false hl] at q' ⊢
        exact iteF q'
def sp_law : SpD := λ ws M Q => ∃ ns : List Int,ws = [.d (.list (ns.map PyData.int))] /\ ns.length <= 63 /\ ∀ M',Q (.d (.bool true)) M'
theorem len_law : ∀ ws M Q,sp_law ws M Q -> ws.length = 1 := by rintro ws M Q ⟨ns,rfl,_⟩; rfl
theorem law_read : ∀ ns : List Int,ns.length <= 63 -> sp_law [.d (.list (ns.map PyData.int))] (λ _ => none) (λ w _ => w = .d (.bool true)) := λ ns h => ⟨ns,rfl,h,λ _ => rfl⟩
theorem read_law : ∀ ws M Q,sp_law ws M Q -> t_law sp_l_bag sp_Machine_init sp_l_take sp_l_drawn sp_l_done sp_Machine_copied sp_l_seen sp_l_right sp_Machine_fail sp_Machine_go_on sp_Machine_rise sp_Machine_take sp_Machine_life sp_Machine_fall { nx := λ _ M' => Q (.d .none) M',rt := Q } (startD N_law ws) M := by
  rintro ws M Q ⟨ns,rfl,hl,k⟩
  have s16' := s16
  refine ⟨_,rfl,ns,rfl,by omega,λ b M0 _ _ b0 => ?_⟩
  refine λ s1 hs1 => ⟨s1, "ma",6,rfl,updM_same,λ d1 M1 hd1 P1 F1 => ⟨rfl,few (by simp),λ f hf => ?_⟩⟩
  refine λ c hc => ⟨rfl,few (by simp),_,_,rfl,_,_,rfl,_,_,rfl,_,_,rfl,_,_,rfl,rfl,?_⟩
  obtain ⟨a1,a2,a3,a4,hb0,_⟩ := id b0
  have bs1 : b ≠ s1 := ne_new hb0 hs1
  have b1 : Bag M1 b := F1.bag (bag_keep b0 (updM_ne bs1)) (by simpa using bs1)
  have xf := Ext.new (o := .lst [W.m s1]) hf
  have xc := Ext.new (o := .dic []) hc
  have x2 : Ext M1 (updM (updM M1 f (.lst [W.m s1])) c (.dic [])) := λ q o e => xc q o (xf q o e)
  have fb : f ≠ b := λ z => by obtain ⟨o,eo⟩ := bag_at b1; rw [<- z,hf] at eo; cases eo
  have cf : c ≠ f := λ z => by rw [z,updM_same] at hc; cases hc
  have cd : c ≠ d1 := λ z => by
    have := xf d1 _ P1.hd
    rw [<- z,hc] at this
    cases this
  have I2 : Iv (updM (updM M1 f (.lst [W.m s1])) c (.dic [])) b f c [(s1,d1)] st0 :=
    ⟨x2.bag b1,fb,λ x hx => by simp at hx; rw [hx]; exact P1.keep (Fr.of_ext x2 []) (by simp) (by simp),by simp,by simp,by simpa using cd,ok0,by simp,by simp⟩
  have hf2 : updM (updM M1 f (.lst [W.m s1])) c (.dic []) f = some (.lst (msW [(s1,d1)])) := by rw [updM_ne cf.symm,updM_same]; rfl
  have hc2 : updM (updM M1 f (.lst [W.m s1])) c (.dic []) c = some (.dic (dataKV (cm st0.L))) := updM_same
  generalize updM (updM M1 f (.lst [W.m s1])) c (.dic []) = M2 at I2 hf2 hc2 ⊢
  refine ⟨_,rfl,b,36,rfl,I2.bag,by decide,by decide,λ n3 M3 n30 n31 b3 f3 => .inl ⟨_,_,rfl,rfl,1,2 + n3,rfl,⟨by decide,by decide,by omega,by omega⟩,?_⟩⟩
  have F3 := Fr.of_eq f3
  have I3 := I2.frb F3 b3
  have hf3 := F3 f _ hf2 (by simpa using fb)
  have cb : c ≠ b := by
    obtain ⟨a1,a2,a3,a4,hb2,_⟩ := id I2.bag
    exact ne_M hc2 hb2 (by intro z; cases z)
  have hc3 := F3 c _ hc2 (by simpa using cb)
  dsimp only
  refine ⟨λ i τ M' => ∃ ms c S shd x8 x9 x10 x11 x12 x13 x14 x15,Iv M' b f c ms S /\ M' f = some (.lst (msW ms)) /\ M' c = some (.dic (dataKV (cm S.L))) /\ Sh S shd /\ S.life <= (i : Int) /\ τ = [some (.d (.list (ns.map PyData.int))),some (.m b),some (.m f),some (.d (.bool S.up)),some (.d (.int S.life)),some (.d shd),some (.d (.int S.sheet)),some (.m c),x8,x9,x10,x11,x12,x13,x14,x15],
    ⟨_,c,st0,.none,_,_,_,_,_,_,_,_,I3,hf3,hc3,.inl ⟨rfl,rfl,rfl⟩,by decide,rfl⟩,?_,?_⟩
  · rintro i w τ M4 hw ⟨ms,c,S,shd,x8,x9,x10,x11,x12,x13,x14,x15,I,hf,hc,sh,hlf,rfl⟩
    have hi : i < (2 + n3 - 1).toNat := by
      have := (List.getElem?_eq_some_iff.mp hw).1
      simpa [rangeW] using this
    obtain rfl : w = .d (.int (1 + (i : Int))) := by
      unfold rangeW at hw
      rw [List.getElem?_map,List.getElem?_range hi] at hw
      exact (Option.some.inj hw).symm
    have hl0 := I.ok.life.1
    have cb : c ≠ b := by
      obtain ⟨a1,a2,a3,a4,hb2,_⟩ := id I.bag
      exact ne_M hc hb2 (by intro z; cases z)
    refine ⟨_,rfl,_,rfl,_,rfl,b,1 + (i : Int),S.life,rfl,I.bag,by omega,by omega,hl0,by omega,λ a M5 ha b5 F5 => ?_⟩
    have I5 := I.frb F5 b5
    have hf5 := F5 f _ hf (by simpa using I.nf)
    have hc5 := F5 c _ hc (by simpa using cb)
    refine ⟨_,rfl,rfl,_,_,rfl,_,_,rfl,rfl,?_⟩
    refine asg_of (read_due (S := S) (a := a) ?_)
    refine read_dn I5 hf5 ha (by omega) hc5 λ ms' M6 I6 hf6 hc6 hlen => ?_
    have n1 := I6.ne
    have n4 := I6.le
    refine read_ck (by omega) (by omega) λ M7 x7 => ?_
    refine read_md (I6.ext x7) I.ok (x7 _ _ hf6) (x7 _ _ hc6) sh ha (by omega) λ c' shd' M8 I8 hf8 hc8 sh8 => ?_
    refine read_tl I8 hf8 hc8 sh8 (by omega) (by omega) λ ms9 M9 y13 I9 hf9 hc9 => ?_
    have := next_life S a
    exact ⟨ms9,c',a.next S,shd',_,_,_,_,_,_,_,_,I9,hf9,hc9,sh8,by omega,rfl⟩
  · rintro τ M4 ⟨ms,c,S,shd,x8,x9,x10,x11,x12,x13,x14,x15,I,hf,hc,sh,hlf,rfl⟩
    have n1 := I.ne
    have le4 := I.le
    cases ms with
    | nil => exact absurd n1 (by simp)
    | cons y rest =>
      obtain ⟨s0,d0⟩ := y
      have ns := I.ns
      have nd := I.nd
      rw [List.map_cons,List.nodup_cons] at ns nd
      refine read_fin (S := S) (d0 := d0) (s0 := s0) (rest := rest) ⟨hf,I.pm (s0,d0) (by simp),λ x hx => I.pm x (by simp [hx]),I.ok,λ x hx z => ns.1 ?_,λ x hx z => nd.1 ?_,by simp at le4; omega⟩ k
      · have := List.mem_map_of_mem (f := (·.1)) hx
        rw [z] at this
        exact this
      · have := List.mem_map_of_mem (f := (·.2)) hx
        rw [z] at this
        exact this
end K47
set_option Elab.async false
set_option linter.all false
set_option maxRecDepth 100000
set_option maxHeartbeats 4000000
namespace K47
open PySem PySem.Spec PyProof.Rows L2 D Stc
def top (i : Nat) : Stmt := PySem.Challenge.pw_placedworks_k47_whole_machine_is_its_las.main.body.getD i (.Pass ⟨0,0,0,0⟩)
abbrev s_l_bag : Stmt := top 9
abbrev s_Machine_init : Stmt := inClass (top 7) 0
abbrev s_l_take : Stmt := top 10
abbrev s_l_copy_row : Stmt := top 11
abbrev s_l_sheet : Stmt := top 12
abbrev s_l_drawn : Stmt := top 15
abbrev s_Machine_rise : Stmt := inClass (top 7) 2
abbrev s_Machine_fall : Stmt := inClass (top 7) 3
abbrev s_is_answering : Stmt := top 4
abbrev s_Machine_answers : Stmt := inClass (top 7) 13
abbrev s_failed : Stmt := top 3
abbrev s_Machine_fail : Stmt := inClass (top 7) 6
abbrev s_new_copy : Stmt := top 1
abbrev s_Machine_take : Stmt := inClass (top 7) 4
abbrev s_gone_on : Stmt := top 2
abbrev s_Machine_go_on : Stmt := inClass (top 7) 5
abbrev s_l_done : Stmt := top 14
abbrev s_Machine_copied : Stmt := inClass (top 7) 1
abbrev s_Machine_lease_at : Stmt := inClass (top 7) 15
abbrev s_Machine_called : Stmt := inClass (top 7) 8
abbrev s_Machine_berths : Stmt := inClass (top 7) 9
abbrev s_Machine_life : Stmt := inClass (top 7) 11
abbrev s_Machine_stands : Stmt := inClass (top 7) 10
abbrev s_told_copy : Stmt := top 5
abbrev s_Machine_lying : Stmt := inClass (top 7) 12
abbrev s_Machine_leases : Stmt := inClass (top 7) 14
abbrev s_Machine_beat : Stmt := inClass (top 7) 7
abbrev s_l_seen : Stmt := top 13
abbrev s_l_right : Stmt := top 16
abbrev s_law : Stmt := top 17
structure Env (K : PySem.W.Frag) (mg : Str -> Option Value) : Prop where
  k_Machine : Cls K C_Machine
  m_Machine : mg "Machine" = some (.ref C_Machine)
  n_Machine_berth_count : NoAttr K C_Machine "berth_count"
  n_Machine_known_leases : NoAttr K C_Machine "known_leases"
  n_Machine_laid : NoAttr K C_Machine "laid"
  n_Machine_lives : NoAttr K C_Machine "lives"
  n_Machine_name : NoAttr K C_Machine "name"
  n_Machine_sheet_turn : NoAttr K C_Machine "sheet_turn"
  n_Machine_standing : NoAttr K C_Machine "standing"
  b_abs : mg "abs" = none
  b_dict : mg "dict" = none
  b_len : mg "len" = none
  b_list : mg "list" = none
  b_max : mg "max" = none
  b_range : mg "range" = none
  b_repr : mg "repr" = none
  b_sorted : mg "sorted" = none
  b_tuple : mg "tuple" = none
section
variable {P : Program} {w : World} {K : PySem.W.Frag} {mg : Str -> Option Value} {base : Heap}
theorem ndc_0 : (["_law_cell"] : List Str).Nodup := by decide +kernel
theorem sc_l_bag : FnScope N_l_bag ["_law_script"] (defScope s_l_bag) := ⟨rfl,rfl,rfl,by decide +kernel,rfl,by decide +kernel,by decide +kernel⟩
set_option maxHeartbeats 0 in
theorem ok_l_bag {f : Addr} {fd : FuncData} (E : Env K mg) (F : Fn K mg "_law_bag" s_l_bag ["_law_script"] f fd) :
    FnOk P w K mg base CX0 1 f fd ["_law_script"] (upSp K sp_l_bag) := by
  refine fun_ok (t := t_l_bag) F.fn sc_l_bag len_l_bag (λ cdv A outer s H E' hr => ?_) read_l_bag
  refine Jd.h ?_
  exact Q.pssd_one (Q.psd_ret (Q.pd_lstM (Q.pac (Q.pd_int) (Q.pac (Q.pd_int) (Q.pac (Q.pd_int) (Q.pac (Q.pd_lc rfl (lcOk (own := (["_law_cell"] : List Str)) (fr := []) rfl) (Q.pid_items (Q.pd_slice (Q.dv 0) (Q.pod_none) (Q.pod_some (Q.pd_int)))) (λ _ _ _ _ _ _ => Q.pgd_name (i := 0) ndc_0 rfl (Or.inl rfl)) (λ _ _ _ _ _ _ => Q.ptsd_nil) (λ _ _ _ _ _ _ => Q.pcB call_abs cd_abs rfl E.b_abs bb_abs (Q.pac (Q.dv 0) (Q.pad_nil)))) (Q.pad_nil)))))))
theorem sc_Machine_init : FnScope N_Machine_init ["self", "name", "berths"] (defScope s_Machine_init) := ⟨rfl,rfl,rfl,by decide +kernel,rfl,by decide +kernel,by decide +kernel⟩
set_option maxHeartbeats 0 in
theorem ok_Machine_init {f : Addr} {fd : FuncData} (E : Env K mg) (F : Mi K C_Machine "Machine.__init__" s_Machine_init ["self", "name", "berths"] f fd) :
    FnOk P w K mg base CX0 1 f fd ["self", "name", "berths"] (upSp K sp_Machine_init) := by
  refine fun_ok (t := t_Machine_init) F.fn sc_Machine_init len_Machine_init (λ cdv A outer s H E' hr => ?_) read_Machine_init
  refine Jd.h ?_
  exact Q.pssd_cons (Q.psd_fld E.k_Machine E.n_Machine_name (Q.dv 0) (Q.dv 1)) <|
    Q.pssd_cons (Q.psd_fld E.k_Machine E.n_Machine_berth_count (Q.dv 0) (Q.dv 2)) <|
    Q.pssd_cons (Q.psd_fld E.k_Machine E.n_Machine_standing (Q.dv 0) (Q.pd_bl)) <|
    Q.pssd_cons (Q.psd_fld E.k_Machine E.n_Machine_lives (Q.dv 0) (Q.pd_int)) <|
    Q.pssd_cons (Q.psd_fld E.k_Machine E.n_Machine_sheet_turn (Q.dv 0) (Q.pd_int)) <|
    Q.pssd_cons (Q.psd_fld E.k_Machine E.n_Machine_laid (Q.dv 0) (Q.pd_newDic)) <|
    Q.pssd_one (Q.psd_fld E.k_Machine E.n_Machine_known_leases (Q.dv 0) (Q.pd_lst (Q.pad_nil)))
theorem sc_l_take : FnScope N_l_take ["_law_bag_here", "_law_many"] (defScope s_l_take) := ⟨rfl,rfl,rfl,by decide +kernel,rfl,by decide +kernel,by decide +kernel⟩
set_option maxHeartbeats 0 in
theorem ok_l_take {f : Addr} {fd : FuncData} (E : Env K mg) (F : Fn K mg "_law_take" s_l_take ["_law_bag_here", "_law_many"] f fd) :
    FnOk P w K mg base CX0 1 f fd ["_law_bag_here", "_law_many"] (upSp K sp_l_take) := by
  refine fun_ok (t := t_l_take) F.fn sc_l_take len_l_take (λ cdv A outer s H E' hr => ?_) read_l_take
  refine Jd.h ?_
  exact Q.pssd_cons (Q.psd_if (Q.ptd_cmp (op_eqD hr) opd_eq (Q.pd_ix ix_seq opd_ix (Q.dv 0) (Q.pd_int)) (Q.pd_int))
      (Q.pssd_cons (Q.psd_set (i := 2) sc_l_take.nd rfl (Or.inl rfl) (Q.pd_int)) <|
      Q.pssd_cons (Q.psd_if (Q.ptd_cmp op_lt opd_lt (Q.pd_ix ix_seq opd_ix (Q.dv 0) (Q.pd_int)) (Q.pcB call_len cd_len rfl E.b_len bb_len (Q.pac (Q.pd_ix ix_seq opd_ix (Q.dv 0) (Q.pd_int)) (Q.pad_nil))))
        (Q.pssd_one (Q.psd_set (i := 2) sc_l_take.nd rfl (Or.inl rfl) (Q.pd_ix ix_seq opd_ix (Q.pd_ix ix_seq opd_ix (Q.dv 0) (Q.pd_int)) (Q.pd_ix ix_seq opd_ix (Q.dv 0) (Q.pd_int)))))
        (Q.pssd_nil)) <|
      Q.pssd_cons (Q.psd_augS (Q.dv 0) (Q.pd_int) (Q.pd_int) ip_add) <|
      Q.pssd_cons (Q.psd_if (Q.ptd_cmp op_ge opd_ge (Q.dv 2) (Q.pd_int))
        (Q.pssd_one (Q.psd_asg (Q.dv 2) (Q.pgd_sub (Q.dv 0) (Q.pd_int))))
        (Q.pssd_nil)) <|
      Q.pssd_one (Q.psd_asg (Q.pd_op op_mod opd_mod (Q.pd_op op_add2 opd_add2 (Q.pd_op op_add2 opd_add2 (Q.pd_op op_mul opd_mul (Q.pd_ix ix_seq opd_ix (Q.dv 0) (Q.pd_int)) (Q.pd_int)) (Q.pd_op op_mod opd_mod (Q.dv 2) (Q.pd_int))) (Q.pd_op op_mul opd_mul (Q.pd_int) (Q.pd_ix ix_seq opd_ix (Q.dv 0) (Q.pd_int)))) (Q.pd_int)) (Q.pgd_sub (Q.dv 0) (Q.pd_int))))
      (Q.pssd_nil)) <|
    Q.pssd_cons (Q.psd_if (Q.ptd_cmp op_gt opd_gt (Q.pd_ix ix_seq opd_ix (Q.dv 0) (Q.pd_int)) (Q.pd_int))
      (Q.pssd_cons (Q.psd_set (i := 3) sc_l_take.nd rfl (Or.inl rfl) (Q.pd_op op_mod opd_mod (Q.pd_ix ix_seq opd_ix (Q.dv 0) (Q.pd_int)) (Q.dv 1))) <|
      Q.pssd_cons (Q.psd_asg (Q.pd_op op_fdiv opd_div (Q.pd_ix ix_seq opd_ix (Q.dv 0) (Q.pd_int)) (Q.dv 1)) (Q.pgd_sub (Q.dv 0) (Q.pd_int))) <|
      Q.pssd_one (Q.psd_ret (Q.dv 3)))
      (Q.pssd_nil)) <|
    Q.pssd_cons (Q.psd_set (i := 4) sc_l_take.nd rfl (Or.inl rfl) (Q.pd_op op_mod opd_mod (Q.pd_op op_mul opd_mul (Q.pd_op op_add2 opd_add2 (Q.pd_ix ix_seq opd_ix (Q.dv 0) (Q.pd_int)) (Q.pd_int)) (Q.pd_int)) (Q.pd_int))) <|
    Q.pssd_cons (Q.psd_set (i := 5) sc_l_take.nd rfl (Or.inl rfl) (Q.pd_op op_mod opd_mod (Q.pd_op op_mul opd_mul (Q.pd_op op_mod opd_mod (Q.pd_op op_mul opd_mul (Q.dv 4) (Q.dv 4)) (Q.pd_int)) (Q.pd_int)) (Q.pd_int))) <|
    Q.pssd_cons (Q.psd_if (Q.ptd_cmp op_gt opd_gt (Q.dv 1) (Q.pd_int))
      (Q.pssd_one (Q.psd_ret (Q.pd_op op_mod opd_mod (Q.pd_op op_add2 opd_add2 (Q.pd_op op_mul opd_mul (Q.dv 5) (Q.pd_int)) (Q.dv 4)) (Q.dv 1))))
      (Q.pssd_nil)) <|
    Q.pssd_one (Q.psd_ret (Q.pd_op op_mod opd_mod (Q.pd_op op_fdiv opd_div (Q.dv 5) (Q.pd_int)) (Q.dv 1)))
theorem sc_l_copy_row : FnScope N_l_copy_row ["_law_bag_here", "_law_number"] (defScope s_l_copy_row) := ⟨rfl,rfl,rfl,by decide +kernel,rfl,by decide +kernel,by decide +kernel⟩
set_option maxHeartbeats 0 in
theorem ok_l_copy_row {f : Addr} {fd : FuncData} (E : Env K mg) (F : Fn K mg "_law_copy_row" s_l_copy_row ["_law_bag_here", "_law_number"] f fd)
    {f_l_take : Addr} {fd_l_take : FuncData} (G_l_take : Fn K mg "_law_take" s_l_take ["_law_bag_here", "_law_many"] f_l_take fd_l_take) (O_l_take : FnOk P w K mg base CX0 1 f_l_take fd_l_take ["_law_bag_here", "_law_many"] (upSp K sp_l_take)) :
    FnOk P w K mg base CX0 2 f fd ["_law_bag_here", "_law_number"] (upSp K sp_l_copy_row) := by
  refine fun_ok (t := t_l_copy_row sp_l_take) F.fn sc_l_copy_row len_l_copy_row (λ cdv A outer s H E' hr => ?_) read_l_copy_row
  refine Jd.h ?_
  exact Q.pssd_cons (Q.psd_set (i := 2) sc_l_copy_row.nd rfl (Or.inl rfl) (Q.pd_ix ix_seq opd_ix (Q.pd_lst (Q.pac (Q.pd_str) (Q.pac (Q.pd_str) (Q.pac (Q.pd_str) (Q.pac (Q.pd_str) (Q.pac (Q.pd_str) (Q.pac (Q.pd_str) (Q.pad_nil)))))))) (Q.pd_op op_mod opd_mod (Q.dv 1) (Q.pd_int)))) <|
    Q.pssd_cons (Q.psd_set (i := 3) sc_l_copy_row.nd rfl (Or.inl rfl) (Q.pd_ix ix_seq opd_ix (Q.pd_lst (Q.pac (Q.pd_str) (Q.pac (Q.pd_str) (Q.pac (Q.pd_str) (Q.pac (Q.pd_str) (Q.pad_nil)))))) (Q.pd_op op_mod opd_mod (Q.dv 1) (Q.pd_int)))) <|
    Q.pssd_one (Q.psd_ret (Q.pd_tup (Q.pac (Q.dv 1) (Q.pac (Q.dv 3) (Q.pac (Q.dv 2) (Q.pac (Q.pd_op op_add2 opd_add2 (Q.pd_int) (Q.pcF O_l_take (hr.mono (by decide)) rfl G_l_take.mg G_l_take.fn.kp G_l_take.bd (Q.pac (Q.dv 0) (Q.pac (Q.pd_int) (Q.pad_nil))))) (Q.pac (Q.pcF O_l_take (hr.mono (by decide)) rfl G_l_take.mg G_l_take.fn.kp G_l_take.bd (Q.pac (Q.dv 0) (Q.pac (Q.pd_int) (Q.pad_nil)))) (Q.pac (Q.pd_op op_add2 opd_add2 (Q.pd_int) (Q.pcF O_l_take (hr.mono (by decide)) rfl G_l_take.mg G_l_take.fn.kp G_l_take.bd (Q.pac (Q.dv 0) (Q.pac (Q.pd_int) (Q.pad_nil))))) (Q.pad_nil)))))))))
theorem ndc_1 : (["_law_k", "_law_bag_here"] : List Str).Nodup := by decide +kernel
theorem ndc_2 : (["_law_number", "_law_bag_here"] : List Str).Nodup := by decide +kernel
theorem ndc_3 : (["_law_row"] : List Str).Nodup := by decide +kernel
theorem sc_l_sheet : FnScope N_l_sheet ["_law_bag_here", "_law_life", "_law_turn", "_law_most"] (defScope s_l_sheet) := ⟨rfl,rfl,rfl,by decide +kernel,rfl,by decide +kernel,by decide +kernel⟩
set_option maxHeartbeats 0 in
theorem ok_l_sheet {f : Addr} {fd : FuncData} (E : Env K mg) (F : Fn K mg "_law_sheet" s_l_sheet ["_law_bag_here", "_law_life", "_law_turn", "_law_most"] f fd)
    {f_l_take : Addr} {fd_l_take : FuncData} (G_l_take : Fn K mg "_law_take" s_l_take ["_law_bag_here", "_law_many"] f_l_take fd_l_take) (O_l_take : FnOk P w K mg base CX0 1 f_l_take fd_l_take ["_law_bag_here", "_law_many"] (upSp K sp_l_take))
    {f_l_copy_row : Addr} {fd_l_copy_row : FuncData} (G_l_copy_row : Fn K mg "_law_copy_row" s_l_copy_row ["_law_bag_here", "_law_number"] f_l_copy_row fd_l_copy_row) (O_l_copy_row : FnOk P w K mg base CX0 2 f_l_copy_row fd_l_copy_row ["_law_bag_here", "_law_number"] (upSp K sp_l_copy_row)) :
    FnOk P w K mg base CX0 3 f fd ["_law_bag_here", "_law_life", "_law_turn", "_law_most"] (upSp K sp_l_sheet) := by
  refine fun_ok (t := t_l_sheet sp_l_take sp_l_copy_row) F.fn sc_l_sheet len_l_sheet (λ cdv A outer s H E' hr => ?_) read_l_sheet
  refine Jd.h ?_
  exact Q.pssd_cons (Q.psd_setLC (i := 4) sc_l_sheet.nd rfl (Or.inl rfl) rfl (lcOk (own := (["_law_k"] : List Str)) (fr := [0]) rfl) (Q.pid_range2 rfl E.b_range (Q.pac (Q.pd_int) (Q.pac (Q.pd_int) (Q.pad_nil)))) (λ _ _ _ _ _ _ => Q.pgd_name (i := 0) ndc_1 rfl (Or.inl rfl)) (λ _ _ _ _ _ _ => Q.ptsd_one (Q.ptd_cmp (op_eqT hr) opd_eqT (Q.pcF O_l_take (hr.mono (by decide)) rfl G_l_take.mg G_l_take.fn.kp G_l_take.bd (Q.pac (Q.dv 1) (Q.pac (Q.pd_int) (Q.pad_nil)))) (Q.pd_int))) (λ _ _ _ _ _ _ => Q.pd_op op_add2 opd_add2 (Q.dv 0) (Q.pd_op op_mul opd_mul (Q.pd_int) (Q.pcF O_l_take (hr.mono (by decide)) rfl G_l_take.mg G_l_take.fn.kp G_l_take.bd (Q.pac (Q.dv 1) (Q.pac (Q.pd_int) (Q.pad_nil))))))) <|
    Q.pssd_cons (Q.psd_setLC (i := 5) sc_l_sheet.nd rfl (Or.inl rfl) rfl (lcOk (own := (["_law_number"] : List Str)) (fr := [0]) rfl) (Q.pid_items (Q.pd_slice (Q.pd_seal (Q.pcB call_sortedI cd_sortI rfl E.b_sorted bb_sorted (Q.pac (Q.dv 4) (Q.pad_nil)))) (Q.pod_none) (Q.pod_some (Q.dv 3)))) (λ _ _ _ _ _ _ => Q.pgd_name (i := 0) ndc_2 rfl (Or.inl rfl)) (λ _ _ _ _ _ _ => Q.ptsd_nil) (λ _ _ _ _ _ _ => Q.pcF O_l_copy_row (hr.mono (by decide)) rfl G_l_copy_row.mg G_l_copy_row.fn.kp G_l_copy_row.bd (Q.pac (Q.dv 1) (Q.pac (Q.dv 0) (Q.pad_nil))))) <|
    Q.pssd_cons (Q.psd_set (i := 6) sc_l_sheet.nd rfl (Or.inl rfl) (Q.pd_slice (Q.pd_cat (Q.pd_lc rfl (lcOk (own := (["_law_row"] : List Str)) (fr := []) rfl) (Q.pid_items (Q.dv 5)) (λ _ _ _ _ _ _ => Q.pgd_name (i := 0) ndc_3 rfl (Or.inl rfl)) (λ _ _ _ _ _ _ => Q.ptsd_nil) (λ _ _ _ _ _ _ => Q.pd_ix ix_seq opd_ix (Q.dv 0) (Q.pd_int))) (Q.pd_lst (Q.pac (Q.pd_int) (Q.pad_nil)))) (Q.pod_none) (Q.pod_some (Q.pd_int)))) <|
    Q.pssd_cons (Q.psd_set (i := 7) sc_l_sheet.nd rfl (Or.inl rfl) (Q.pd_lstM (Q.pad_nil))) <|
    Q.pssd_cons (Q.psd_for PassesOwn.never rfl (Q.pid_range1 rfl E.b_range (Q.pac (Q.pcF O_l_take (hr.mono (by decide)) rfl G_l_take.mg G_l_take.fn.kp G_l_take.bd (Q.pac (Q.dv 0) (Q.pac (Q.pd_int) (Q.pad_nil)))) (Q.pad_nil))) (Q.pgd_name (i := 8) sc_l_sheet.nd rfl (Or.inl rfl))
      (Q.pssd_cons (Q.psd_set (i := 9) sc_l_sheet.nd rfl (Or.inl rfl) (Q.pd_ix ix_seq opd_ix (Q.dv 6) (Q.pcF O_l_take (hr.mono (by decide)) rfl G_l_take.mg G_l_take.fn.kp G_l_take.bd (Q.pac (Q.dv 0) (Q.pac (Q.pcB call_len cd_len rfl E.b_len bb_len (Q.pac (Q.dv 6) (Q.pad_nil))) (Q.pad_nil)))))) <|
      Q.pssd_one (Q.psd_expr (Q.pd_append (Q.dv 7) (Q.pd_tup (Q.pac (Q.pd_ix ix_seq opd_ix (Q.pd_lst (Q.pac (Q.pd_str) (Q.pac (Q.pd_str) (Q.pac (Q.pd_str) (Q.pac (Q.pd_str) (Q.pad_nil)))))) (Q.dv 8)) (Q.pac (Q.pd_op op_add2 opd_add2 (Q.pd_int) (Q.pcF O_l_take (hr.mono (by decide)) rfl G_l_take.mg G_l_take.fn.kp G_l_take.bd (Q.pac (Q.dv 0) (Q.pac (Q.pd_int) (Q.pad_nil))))) (Q.pac (Q.dv 9) (Q.pac (Q.pd_op op_add2 opd_add2 (Q.dv 2) (Q.pcF O_l_take (hr.mono (by decide)) rfl G_l_take.mg G_l_take.fn.kp G_l_take.bd (Q.pac (Q.dv 0) (Q.pac (Q.pd_int) (Q.pad_nil))))) (Q.pad_nil)))))))))) <|
    Q.pssd_one (Q.psd_ret (Q.pd_tup (Q.pac (Q.dv 1) (Q.pac (Q.dv 2) (Q.pac (Q.dv 5) (Q.pac (Q.pd_seal (Q.pcB call_sortedP cd_sortP rfl E.b_sorted bb_sorted (Q.pac (Q.dv 7) (Q.pad_nil)))) (Q.pad_nil)))))))
theorem sc_l_drawn : FnScope N_l_drawn ["_law_bag_here", "_law_turn", "_law_life"] (defScope s_l_drawn) := ⟨rfl,rfl,rfl,by decide +kernel,rfl,by decide +kernel,by decide +kernel⟩
set_option maxHeartbeats 0 in
theorem ok_l_drawn {f : Addr} {fd : FuncData} (E : Env K mg) (F : Fn K mg "_law_drawn" s_l_drawn ["_law_bag_here", "_law_turn", "_law_life"] f fd)
    {f_l_take : Addr} {fd_l_take : FuncData} (G_l_take : Fn K mg "_law_take" s_l_take ["_law_bag_here", "_law_many"] f_l_take fd_l_take) (O_l_take : FnOk P w K mg base CX0 1 f_l_take fd_l_take ["_law_bag_here", "_law_many"] (upSp K sp_l_take))
    {f_l_sheet : Addr} {fd_l_sheet : FuncData} (G_l_sheet : Fn K mg "_law_sheet" s_l_sheet ["_law_bag_here", "_law_life", "_law_turn", "_law_most"] f_l_sheet fd_l_sheet) (O_l_sheet : FnOk P w K mg base CX0 3 f_l_sheet fd_l_sheet ["_law_bag_here", "_law_life", "_law_turn", "_law_most"] (upSp K sp_l_sheet)) :
    FnOk P w K mg base CX0 4 f fd ["_law_bag_here", "_law_turn", "_law_life"] (upSp K sp_l_drawn) := by
  refine fun_ok (t := t_l_drawn sp_l_take sp_l_sheet) F.fn sc_l_drawn len_l_drawn (λ cdv A outer s H E' hr => ?_) read_l_drawn
  refine Jd.h ?_
  exact Q.pssd_cons (Q.psd_set (i := 3) sc_l_drawn.nd rfl (Or.inl rfl) (Q.pd_ix ix_seq opd_ix (Q.pd_lst (Q.pac (Q.pd_int) (Q.pac (Q.pd_int) (Q.pac (Q.pd_int) (Q.pac (Q.pd_int) (Q.pac (Q.pd_int) (Q.pac (Q.pd_int) (Q.pac (Q.pd_int) (Q.pac (Q.pd_int) (Q.pac (Q.pd_int) (Q.pac (Q.pd_int) (Q.pac (Q.pd_int) (Q.pac (Q.pd_int) (Q.pad_nil)))))))))))))) (Q.pcF O_l_take (hr.mono (by decide)) rfl G_l_take.mg G_l_take.fn.kp G_l_take.bd (Q.pac (Q.dv 0) (Q.pac (Q.pd_int) (Q.pad_nil)))))) <|
    Q.pssd_cons (Q.psd_if (Q.ptd_w (Q.pwd_and (Q.ptd_cmp (op_eqT hr) opd_eqT (Q.dv 3) (Q.pd_int)) (Q.pwd_and1 (Q.ptd_cmp op_gt opd_gt (Q.pcF O_l_take (hr.mono (by decide)) rfl G_l_take.mg G_l_take.fn.kp G_l_take.bd (Q.pac (Q.dv 0) (Q.pac (Q.pd_int) (Q.pad_nil)))) (Q.pd_int)))))
      (Q.pssd_one (Q.psd_set (i := 3) sc_l_drawn.nd rfl (Or.inl rfl) (Q.pd_int)))
      (Q.pssd_nil)) <|
    Q.pssd_cons (Q.psd_if (Q.ptd_cmp (op_eqT hr) opd_eqT (Q.dv 3) (Q.pd_int))
      (Q.pssd_one (Q.psd_ret (Q.pd_tup (Q.pac (Q.pd_int) (Q.pac (Q.pd_op op_add2 opd_add2 (Q.pd_int) (Q.pcF O_l_take (hr.mono (by decide)) rfl G_l_take.mg G_l_take.fn.kp G_l_take.bd (Q.pac (Q.dv 0) (Q.pac (Q.pd_int) (Q.pad_nil))))) (Q.pad_nil))))))
      (Q.pssd_nil)) <|
    Q.pssd_cons (Q.psd_if (Q.ptd_cmp (op_eqT hr) opd_eqT (Q.dv 3) (Q.pd_int))
      (Q.pssd_cons (Q.psd_set (i := 4) sc_l_drawn.nd rfl (Or.inl rfl) (Q.pcB (call_max2 rfl) cd_max2 rfl E.b_max bb_max (Q.pac (Q.pd_int) (Q.pac (Q.pd_op op_add2 opd_add2 (Q.dv 2) (Q.pd_ix ix_seq opd_ix (Q.pd_lst (Q.pac (Q.pd_int) (Q.pac (Q.pd_int) (Q.pac (Q.pd_int) (Q.pac (Q.pd_int) (Q.pac (Q.pd_un un_neg und_neg (Q.pd_int)) (Q.pac (Q.pd_int) (Q.pad_nil)))))))) (Q.pcF O_l_take (hr.mono (by decide)) rfl G_l_take.mg G_l_take.fn.kp G_l_take.bd (Q.pac (Q.dv 0) (Q.pac (Q.pd_int) (Q.pad_nil)))))) (Q.pad_nil))))) <|
      Q.pssd_one (Q.psd_ret (Q.pd_tup (Q.pac (Q.pd_int) (Q.pac (Q.pcF O_l_sheet (hr.mono (by decide)) rfl G_l_sheet.mg G_l_sheet.fn.kp G_l_sheet.bd (Q.pac (Q.dv 0) (Q.pac (Q.dv 4) (Q.pac (Q.pcB (call_max2 rfl) cd_max2 rfl E.b_max bb_max (Q.pac (Q.pd_int) (Q.pac (Q.pd_op op_sub opd_sub (Q.dv 1) (Q.pd_ix ix_seq opd_ix (Q.pd_lst (Q.pac (Q.pd_int) (Q.pac (Q.pd_int) (Q.pac (Q.pd_int) (Q.pac (Q.pd_int) (Q.pac (Q.pd_int) (Q.pad_nil))))))) (Q.pcF O_l_take (hr.mono (by decide)) rfl G_l_take.mg G_l_take.fn.kp G_l_take.bd (Q.pac (Q.dv 0) (Q.pac (Q.pd_int) (Q.pad_nil)))))) (Q.pad_nil)))) (Q.pac (Q.pd_int) (Q.pad_nil)))))) (Q.pad_nil))))))
      (Q.pssd_nil)) <|
    Q.pssd_one (Q.psd_ret (Q.pd_tup (Q.pac (Q.dv 3) (Q.pac (Q.pd_non) (Q.pad_nil)))))
theorem sc_Machine_rise : FnScope N_Machine_rise ["self"] (defScope s_Machine_rise) := ⟨rfl,rfl,rfl,by decide +kernel,rfl,by decide +kernel,by decide +kernel⟩
set_option maxHeartbeats 0 in
theorem ok_Machine_rise {f : Addr} {fd : FuncData} (E : Env K mg) (F : Mf K C_Machine "rise" "Machine.rise" s_Machine_rise ["self"] f fd) :
    FnOk P w K mg base CX0 1 f fd ["self"] (upSp K sp_Machine_rise) := by
  refine fun_ok (t := t_Machine_rise) F.fn sc_Machine_rise len_Machine_rise (λ cdv A outer s H E' hr => ?_) read_Machine_rise
  refine Jd.h ?_
  exact Q.pssd_cons (Q.psd_if (Q.ptd_val (Q.pd_fld E.k_Machine E.n_Machine_standing (Q.dv 0)))
      (Q.pssd_one (Q.psd_ret (Q.pd_bl)))
      (Q.pssd_nil)) <|
    Q.pssd_cons (Q.psd_fld E.k_Machine E.n_Machine_standing (Q.dv 0) (Q.pd_bl)) <|
    Q.pssd_cons (Q.psd_fldaug E.k_Machine E.n_Machine_lives (Q.dv 0) (Q.pd_int) ip_add) <|
    Q.pssd_cons (Q.psd_fld E.k_Machine E.n_Machine_sheet_turn (Q.dv 0) (Q.pd_int)) <|
    Q.pssd_one (Q.psd_ret (Q.pd_bl))
theorem sc_Machine_fall : FnScope N_Machine_fall ["self"] (defScope s_Machine_fall) := ⟨rfl,rfl,rfl,by decide +kernel,rfl,by decide +kernel,by decide +kernel⟩
set_option maxHeartbeats 0 in
theorem ok_Machine_fall {f : Addr} {fd : FuncData} (E : Env K mg) (F : Mf K C_Machine "fall" "Machine.fall" s_Machine_fall ["self"] f fd) :
    FnOk P w K mg base CX0 1 f fd ["self"] (upSp K sp_Machine_fall) := by
  refine fun_ok (t := t_Machine_fall) F.fn sc_Machine_fall len_Machine_fall (λ cdv A outer s H E' hr => ?_) read_Machine_fall
  refine Jd.h ?_
  exact Q.pssd_cons (Q.psd_if (Q.ptd_not (Q.ptd_val (Q.pd_fld E.k_Machine E.n_Machine_standing (Q.dv 0))))
      (Q.pssd_one (Q.psd_ret (Q.pd_bl)))
      (Q.pssd_nil)) <|
    Q.pssd_cons (Q.psd_fld E.k_Machine E.n_Machine_standing (Q.dv 0) (Q.pd_bl)) <|
    Q.pssd_cons (Q.psd_fld E.k_Machine E.n_Machine_laid (Q.dv 0) (Q.pd_newDic)) <|
    Q.pssd_cons (Q.psd_fld E.k_Machine E.n_Machine_known_leases (Q.dv 0) (Q.pd_lst (Q.pad_nil))) <|
    Q.pssd_one (Q.psd_ret (Q.pd_bl))
theorem sc_is_answering : FnScope N_is_answering ["copy"] (defScope s_is_answering) := ⟨rfl,rfl,rfl,by decide +kernel,rfl,by decide +kernel,by decide +kernel⟩
set_option maxHeartbeats 0 in
theorem ok_is_answering {f : Addr} {fd : FuncData} (E : Env K mg) (F : Fn K mg "is_answering" s_is_answering ["copy"] f fd) :
    FnOk P w K mg base CX0 1 f fd ["copy"] (upSp K sp_is_answering) := by
  refine fun_ok (t := t_is_answering) F.fn sc_is_answering len_is_answering (λ cdv A outer s H E' hr => ?_) read_is_answering
  refine Jd.h ?_
  exact Q.pssd_cons (Q.psd_asg (Q.dv 0) (Q.pgd_tup rfl (Q.pgsd_cons (Q.pgd_name (i := 1) sc_is_answering.nd rfl (Or.inl rfl)) (Q.pgsd_cons (Q.pgd_name (i := 2) sc_is_answering.nd rfl (Or.inl rfl)) (Q.pgsd_cons (Q.pgd_name (i := 3) sc_is_answering.nd rfl (Or.inl rfl)) (Q.pgsd_nil)))))) <|
    Q.pssd_one (Q.psd_ret (Q.pd_cmp (op_eqT hr) opd_eqT (Q.dv 2) (Q.pd_str)))
theorem sc_Machine_answers : FnScope N_Machine_answers ["self", "number"] (defScope s_Machine_answers) := ⟨rfl,rfl,rfl,by decide +kernel,rfl,by decide +kernel,by decide +kernel⟩
set_option maxHeartbeats 0 in
theorem ok_Machine_answers {f : Addr} {fd : FuncData} (E : Env K mg) (F : Mf K C_Machine "answers" "Machine.answers" s_Machine_answers ["self", "number"] f fd)
    {f_is_answering : Addr} {fd_is_answering : FuncData} (G_is_answering : Fn K mg "is_answering" s_is_answering ["copy"] f_is_answering fd_is_answering) (O_is_answering : FnOk P w K mg base CX0 1 f_is_answering fd_is_answering ["copy"] (upSp K sp_is_answering)) :
    FnOk P w K mg base CX0 2 f fd ["self", "number"] (upSp K sp_Machine_answers) := by
  refine fun_ok (t := t_Machine_answers sp_is_answering) F.fn sc_Machine_answers len_Machine_answers (λ cdv A outer s H E' hr => ?_) read_Machine_answers
  refine Jd.h ?_
  exact Q.pssd_one (Q.psd_ret (Q.pd_and (Q.pd_din (hu_of hr) (Q.dv 1) (Q.pd_fld E.k_Machine E.n_Machine_laid (Q.dv 0))) (Q.pd_one (Q.pcF O_is_answering (hr.mono (by decide)) rfl G_is_answering.mg G_is_answering.fn.kp G_is_answering.bd (Q.pac (Q.pd_dget (hu_of hr) (Q.pd_fld E.k_Machine E.n_Machine_laid (Q.dv 0)) (Q.dv 1)) (Q.pad_nil))))))
theorem sc_failed : FnScope N_failed ["copy"] (defScope s_failed) := ⟨rfl,rfl,rfl,by decide +kernel,rfl,by decide +kernel,by decide +kernel⟩
set_option maxHeartbeats 0 in
theorem ok_failed {f : Addr} {fd : FuncData} (E : Env K mg) (F : Fn K mg "failed" s_failed ["copy"] f fd) :
    FnOk P w K mg base CX0 1 f fd ["copy"] (upSp K sp_failed) := by
  refine fun_ok (t := t_failed) F.fn sc_failed len_failed (λ cdv A outer s H E' hr => ?_) read_failed
  refine Jd.h ?_
  exact Q.pssd_cons (Q.psd_asg (Q.dv 0) (Q.pgd_tup rfl (Q.pgsd_cons (Q.pgd_name (i := 1) sc_failed.nd rfl (Or.inl rfl)) (Q.pgsd_cons (Q.pgd_name (i := 2) sc_failed.nd rfl (Or.inl rfl)) (Q.pgsd_cons (Q.pgd_name (i := 3) sc_failed.nd rfl (Or.inl rfl)) (Q.pgsd_nil)))))) <|
    Q.pssd_one (Q.psd_ret (Q.pd_tup (Q.pac (Q.dv 1) (Q.pac (Q.pd_str) (Q.pac (Q.pd_int) (Q.pad_nil))))))
theorem sc_Machine_fail : FnScope N_Machine_fail ["self", "number"] (defScope s_Machine_fail) := ⟨rfl,rfl,rfl,by decide +kernel,rfl,by decide +kernel,by decide +kernel⟩
set_option maxHeartbeats 0 in
theorem ok_Machine_fail {f : Addr} {fd : FuncData} (E : Env K mg) (F : Mf K C_Machine "fail" "Machine.fail" s_Machine_fail ["self", "number"] f fd)
    {f_Machine_answers : Addr} {fd_Machine_answers : FuncData} (G_Machine_answers : Mf K C_Machine "answers" "Machine.answers" s_Machine_answers ["self", "number"] f_Machine_answers fd_Machine_answers) (O_Machine_answers : FnOk P w K mg base CX0 2 f_Machine_answers fd_Machine_answers ["self", "number"] (upSp K sp_Machine_answers))
    {f_failed : Addr} {fd_failed : FuncData} (G_failed : Fn K mg "failed" s_failed ["copy"] f_failed fd_failed) (O_failed : FnOk P w K mg base CX0 1 f_failed fd_failed ["copy"] (upSp K sp_failed)) :
    FnOk P w K mg base CX0 3 f fd ["self", "number"] (upSp K sp_Machine_fail) := by
  refine fun_ok (t := t_Machine_fail sp_Machine_answers sp_failed) F.fn sc_Machine_fail len_Machine_fail (λ cdv A outer s H E' hr => ?_) read_Machine_fail
  refine Jd.h ?_
  exact Q.pssd_cons (Q.psd_if (Q.ptd_not (Q.ptd_val (Q.pd_meth (Q.dv 0) E.k_Machine G_Machine_answers.me O_Machine_answers (hr.mono (by decide)) G_Machine_answers.bd (Q.pac (Q.dv 1) (Q.pad_nil)))))
      (Q.pssd_one (Q.psd_ret (Q.pd_bl)))
      (Q.pssd_nil)) <|
    Q.pssd_cons (Q.psd_dput (hu_of hr) (Q.pd_fld E.k_Machine E.n_Machine_laid (Q.dv 0)) (Q.dv 1) (Q.pcF O_failed (hr.mono (by decide)) rfl G_failed.mg G_failed.fn.kp G_failed.bd (Q.pac (Q.pd_dget (hu_of hr) (Q.pd_fld E.k_Machine E.n_Machine_laid (Q.dv 0)) (Q.dv 1)) (Q.pad_nil)))) <|
    Q.pssd_one (Q.psd_ret (Q.pd_bl))
theorem sc_new_copy : FnScope N_new_copy ["row"] (defScope s_new_copy) := ⟨rfl,rfl,rfl,by decide +kernel,rfl,by decide +kernel,by decide +kernel⟩
set_option maxHeartbeats 0 in
theorem ok_new_copy {f : Addr} {fd : FuncData} (E : Env K mg) (F : Fn K mg "new_copy" s_new_copy ["row"] f fd) :
    FnOk P w K mg base CX0 1 f fd ["row"] (upSp K sp_new_copy) := by
  refine fun_ok (t := t_new_copy) F.fn sc_new_copy len_new_copy (λ cdv A outer s H E' hr => ?_) read_new_copy
  refine Jd.h ?_
  exact Q.pssd_cons (Q.psd_asg (Q.dv 0) (Q.pgd_tup rfl (Q.pgsd_cons (Q.pgd_name (i := 1) sc_new_copy.nd rfl (Or.inl rfl)) (Q.pgsd_cons (Q.pgd_name (i := 2) sc_new_copy.nd rfl (Or.inl rfl)) (Q.pgsd_cons (Q.pgd_name (i := 3) sc_new_copy.nd rfl (Or.inl rfl)) (Q.pgsd_cons (Q.pgd_name (i := 4) sc_new_copy.nd rfl (Or.inl rfl)) (Q.pgsd_cons (Q.pgd_name (i := 5) sc_new_copy.nd rfl (Or.inl rfl)) (Q.pgsd_cons (Q.pgd_name (i := 6) sc_new_copy.nd rfl (Or.inl rfl)) (Q.pgsd_nil))))))))) <|
    Q.pssd_one (Q.psd_ret (Q.pd_tup (Q.pac (Q.dv 0) (Q.pac (Q.pd_str) (Q.pac (Q.dv 5) (Q.pad_nil))))))
theorem ndc_4 : (["row", "self"] : List Str).Nodup := by decide +kernel
theorem sc_Machine_take : FnScope N_Machine_take ["self", "sheet"] (defScope s_Machine_take) := ⟨rfl,rfl,rfl,by decide +kernel,rfl,by decide +kernel,by decide +kernel⟩
set_option maxHeartbeats 0 in
theorem ok_Machine_take {f : Addr} {fd : FuncData} (E : Env K mg) (F : Mf K C_Machine "take" "Machine.take" s_Machine_take ["self", "sheet"] f fd)
    {f_new_copy : Addr} {fd_new_copy : FuncData} (G_new_copy : Fn K mg "new_copy" s_new_copy ["row"] f_new_copy fd_new_copy) (O_new_copy : FnOk P w K mg base CX0 1 f_new_copy fd_new_copy ["row"] (upSp K sp_new_copy)) :
    FnOk P w K mg base CX0 2 f fd ["self", "sheet"] (upSp K sp_Machine_take) := by
  refine fun_ok (t := t_Machine_take sp_new_copy) F.fn sc_Machine_take len_Machine_take (λ cdv A outer s H E' hr => ?_) read_Machine_take
  refine Jd.h ?_
  exact Q.pssd_cons (Q.psd_asg (Q.dv 1) (Q.pgd_tup rfl (Q.pgsd_cons (Q.pgd_name (i := 2) sc_Machine_take.nd rfl (Or.inl rfl)) (Q.pgsd_cons (Q.pgd_name (i := 3) sc_Machine_take.nd rfl (Or.inl rfl)) (Q.pgsd_cons (Q.pgd_name (i := 4) sc_Machine_take.nd rfl (Or.inl rfl)) (Q.pgsd_cons (Q.pgd_name (i := 5) sc_Machine_take.nd rfl (Or.inl rfl)) (Q.pgsd_nil))))))) <|
    Q.pssd_cons (Q.psd_if (Q.ptd_w (Q.pwd_or (Q.ptd_not (Q.ptd_val (Q.pd_fld E.k_Machine E.n_Machine_standing (Q.dv 0)))) (Q.pwd_or (Q.ptd_cmp (op_neT hr) opd_neT (Q.dv 2) (Q.pd_fld E.k_Machine E.n_Machine_lives (Q.dv 0))) (Q.pwd_or1 (Q.ptd_cmp op_le2 opd_le2 (Q.dv 3) (Q.pd_fld E.k_Machine E.n_Machine_sheet_turn (Q.dv 0)))))))
      (Q.pssd_one (Q.psd_ret (Q.pd_bl)))
      (Q.pssd_nil)) <|
    Q.pssd_cons (Q.psd_fld E.k_Machine E.n_Machine_sheet_turn (Q.dv 0) (Q.dv 3)) <|
    Q.pssd_cons (Q.psd_fld E.k_Machine E.n_Machine_laid (Q.dv 0) (Q.pd_dc rfl (lcOk (own := (["row"] : List Str)) (fr := [0]) rfl) (Q.pid_items (Q.dv 4)) (λ _ _ _ _ _ _ => Q.pgd_name (i := 0) ndc_4 rfl (Or.inl rfl)) (λ _ _ _ _ _ _ => Q.ptsd_nil) (λ _ _ _ _ _ _ => Q.pd_ix ix_seq opd_ix (Q.dv 0) (Q.pd_int)) (λ _ _ _ _ _ _ => Q.pd_get2 (hu_of hr) (Q.pd_fld E.k_Machine E.n_Machine_laid (Q.dv 1)) (Q.pd_ix ix_seq opd_ix (Q.dv 0) (Q.pd_int)) (Q.pcF O_new_copy (hr.mono (by decide)) rfl G_new_copy.mg G_new_copy.fn.kp G_new_copy.bd (Q.pac (Q.dv 0) (Q.pad_nil)))))) <|
    Q.pssd_cons (Q.psd_fld E.k_Machine E.n_Machine_known_leases (Q.dv 0) (Q.pd_seal (Q.pcT call_list_of cd_listOf rfl E.b_list bt_list (Q.pac (Q.dv 5) (Q.pad_nil))))) <|
    Q.pssd_one (Q.psd_ret (Q.pd_bl))
theorem sc_gone_on : FnScope N_gone_on ["copy"] (defScope s_gone_on) := ⟨rfl,rfl,rfl,by decide +kernel,rfl,by decide +kernel,by decide +kernel⟩
set_option maxHeartbeats 0 in
theorem ok_gone_on {f : Addr} {fd : FuncData} (E : Env K mg) (F : Fn K mg "gone_on" s_gone_on ["copy"] f fd)
    {f_new_copy : Addr} {fd_new_copy : FuncData} (G_new_copy : Fn K mg "new_copy" s_new_copy ["row"] f_new_copy fd_new_copy) (O_new_copy : FnOk P w K mg base CX0 1 f_new_copy fd_new_copy ["row"] (upSp K sp_new_copy)) :
    FnOk P w K mg base CX0 2 f fd ["copy"] (upSp K sp_gone_on) := by
  refine fun_ok (t := t_gone_on sp_new_copy) F.fn sc_gone_on len_gone_on (λ cdv A outer s H E' hr => ?_) read_gone_on
  refine Jd.h ?_
  exact Q.pssd_cons (Q.psd_asg (Q.dv 0) (Q.pgd_tup rfl (Q.pgsd_cons (Q.pgd_name (i := 1) sc_gone_on.nd rfl (Or.inl rfl)) (Q.pgsd_cons (Q.pgd_name (i := 2) sc_gone_on.nd rfl (Or.inl rfl)) (Q.pgsd_cons (Q.pgd_name (i := 3) sc_gone_on.nd rfl (Or.inl rfl)) (Q.pgsd_nil)))))) <|
    Q.pssd_cons (Q.psd_if (Q.ptd_cmp (op_eqT hr) opd_eqT (Q.dv 2) (Q.pd_str))
      (Q.pssd_one (Q.psd_ret (Q.pcF O_new_copy (hr.mono (by decide)) rfl G_new_copy.mg G_new_copy.fn.kp G_new_copy.bd (Q.pac (Q.dv 1) (Q.pad_nil)))))
      (Q.pssd_nil)) <|
    Q.pssd_cons (Q.psd_if (Q.ptd_w (Q.pwd_and (Q.ptd_cmp (op_eqT hr) opd_eqT (Q.dv 2) (Q.pd_str)) (Q.pwd_and1 (Q.ptd_cmp op_gt opd_gt (Q.dv 3) (Q.pd_int)))))
      (Q.pssd_one (Q.psd_ret (Q.pd_tup (Q.pac (Q.dv 1) (Q.pac (Q.pd_str) (Q.pac (Q.pd_op op_sub opd_sub (Q.dv 3) (Q.pd_int)) (Q.pad_nil)))))))
      (Q.pssd_nil)) <|
    Q.pssd_one (Q.psd_ret (Q.pd_tup (Q.pac (Q.dv 1) (Q.pac (Q.pd_str) (Q.pac (Q.pd_int) (Q.pad_nil))))))
theorem ndc_5 : (["number", "copy"] : List Str).Nodup := by decide +kernel
theorem sc_Machine_go_on : FnScope N_Machine_go_on ["self"] (defScope s_Machine_go_on) := ⟨rfl,rfl,rfl,by decide +kernel,rfl,by decide +kernel,by decide +kernel⟩
set_option maxHeartbeats 0 in
theorem ok_Machine_go_on {f : Addr} {fd : FuncData} (E : Env K mg) (F : Mf K C_Machine "go_on" "Machine.go_on" s_Machine_go_on ["self"] f fd)
    {f_gone_on : Addr} {fd_gone_on : FuncData} (G_gone_on : Fn K mg "gone_on" s_gone_on ["copy"] f_gone_on fd_gone_on) (O_gone_on : FnOk P w K mg base CX0 2 f_gone_on fd_gone_on ["copy"] (upSp K sp_gone_on)) :
    FnOk P w K mg base CX0 3 f fd ["self"] (upSp K sp_Machine_go_on) := by
  refine fun_ok (t := t_Machine_go_on sp_gone_on) F.fn sc_Machine_go_on len_Machine_go_on (λ cdv A outer s H E' hr => ?_) read_Machine_go_on
  refine Jd.h ?_
  exact Q.pssd_one (Q.psd_fld E.k_Machine E.n_Machine_laid (Q.dv 0) (Q.pd_still (Q.pd_dc rfl (lcOk (own := (["number", "copy"] : List Str)) (fr := []) rfl) (Q.pid_ditems (Q.pd_fld E.k_Machine E.n_Machine_laid (Q.dv 0))) (λ _ _ _ _ _ _ => Q.pgd_tup rfl (Q.pgsd_cons (Q.pgd_name (i := 0) ndc_5 rfl (Or.inl rfl)) (Q.pgsd_cons (Q.pgd_name (i := 1) ndc_5 rfl (Or.inl rfl)) (Q.pgsd_nil)))) (λ _ _ _ _ _ _ => Q.ptsd_nil) (λ _ _ _ _ _ _ => Q.dv 0) (λ _ _ _ _ _ _ => Q.pcF O_gone_on (hr.mono (by decide)) rfl G_gone_on.mg G_gone_on.fn.kp G_gone_on.bd (Q.pac (Q.dv 1) (Q.pad_nil))))))
theorem sc_l_done : FnScope N_l_done ["_law_machine", "_law_way", "_law_thing"] (defScope s_l_done) := ⟨rfl,rfl,rfl,by decide +kernel,rfl,by decide +kernel,by decide +kernel⟩
set_option maxHeartbeats 0 in
theorem ok_l_done {f : Addr} {fd : FuncData} (E : Env K mg) (F : Fn K mg "_law_done" s_l_done ["_law_machine", "_law_way", "_law_thing"] f fd)
    {f_Machine_rise : Addr} {fd_Machine_rise : FuncData} (G_Machine_rise : Mf K C_Machine "rise" "Machine.rise" s_Machine_rise ["self"] f_Machine_rise fd_Machine_rise) (O_Machine_rise : FnOk P w K mg base CX0 1 f_Machine_rise fd_Machine_rise ["self"] (upSp K sp_Machine_rise))
    {f_Machine_fall : Addr} {fd_Machine_fall : FuncData} (G_Machine_fall : Mf K C_Machine "fall" "Machine.fall" s_Machine_fall ["self"] f_Machine_fall fd_Machine_fall) (O_Machine_fall : FnOk P w K mg base CX0 1 f_Machine_fall fd_Machine_fall ["self"] (upSp K sp_Machine_fall))
    {f_Machine_fail : Addr} {fd_Machine_fail : FuncData} (G_Machine_fail : Mf K C_Machine "fail" "Machine.fail" s_Machine_fail ["self", "number"] f_Machine_fail fd_Machine_fail) (O_Machine_fail : FnOk P w K mg base CX0 3 f_Machine_fail fd_Machine_fail ["self", "number"] (upSp K sp_Machine_fail))
    {f_Machine_take : Addr} {fd_Machine_take : FuncData} (G_Machine_take : Mf K C_Machine "take" "Machine.take" s_Machine_take ["self", "sheet"] f_Machine_take fd_Machine_take) (O_Machine_take : FnOk P w K mg base CX0 2 f_Machine_take fd_Machine_take ["self", "sheet"] (upSp K sp_Machine_take))
    {f_Machine_go_on : Addr} {fd_Machine_go_on : FuncData} (G_Machine_go_on : Mf K C_Machine "go_on" "Machine.go_on" s_Machine_go_on ["self"] f_Machine_go_on fd_Machine_go_on) (O_Machine_go_on : FnOk P w K mg base CX0 3 f_Machine_go_on fd_Machine_go_on ["self"] (upSp K sp_Machine_go_on)) :
    FnOk P w K mg base CX0 4 f fd ["_law_machine", "_law_way", "_law_thing"] (upSp K sp_l_done) := by
  refine fun_ok (t := t_l_done sp_Machine_rise sp_Machine_fall sp_Machine_fail sp_Machine_take sp_Machine_go_on) F.fn sc_l_done len_l_done (λ cdv A outer s H E' hr => ?_) read_l_done
  refine Jd.h ?_
  exact Q.pssd_cons (Q.psd_if (Q.ptd_cmp (op_eqT hr) opd_eqT (Q.dv 1) (Q.pd_int))
      (Q.pssd_one (Q.psd_ret (Q.pd_meth0 (Q.dv 0) E.k_Machine G_Machine_rise.me O_Machine_rise (hr.mono (by decide)) G_Machine_rise.bd)))
      (Q.pssd_nil)) <|
    Q.pssd_cons (Q.psd_if (Q.ptd_cmp (op_eqT hr) opd_eqT (Q.dv 1) (Q.pd_int))
      (Q.pssd_one (Q.psd_ret (Q.pd_meth0 (Q.dv 0) E.k_Machine G_Machine_fall.me O_Machine_fall (hr.mono (by decide)) G_Machine_fall.bd)))
      (Q.pssd_nil)) <|
    Q.pssd_cons (Q.psd_if (Q.ptd_cmp (op_eqT hr) opd_eqT (Q.dv 1) (Q.pd_int))
      (Q.pssd_one (Q.psd_ret (Q.pd_meth (Q.dv 0) E.k_Machine G_Machine_fail.me O_Machine_fail (hr.mono (by decide)) G_Machine_fail.bd (Q.pac (Q.dv 2) (Q.pad_nil)))))
      (Q.pssd_nil)) <|
    Q.pssd_cons (Q.psd_if (Q.ptd_cmp (op_eqT hr) opd_eqT (Q.dv 1) (Q.pd_int))
      (Q.pssd_one (Q.psd_ret (Q.pd_meth (Q.dv 0) E.k_Machine G_Machine_take.me O_Machine_take (hr.mono (by decide)) G_Machine_take.bd (Q.pac (Q.pd_tup (Q.pac (Q.pd_ix ix_seq opd_ix (Q.dv 2) (Q.pd_int)) (Q.pac (Q.pd_ix ix_seq opd_ix (Q.dv 2) (Q.pd_int)) (Q.pac (Q.pd_seal (Q.pcT call_list_of cd_listOf rfl E.b_list bt_list (Q.pac (Q.pd_ix ix_seq opd_ix (Q.dv 2) (Q.pd_int)) (Q.pad_nil)))) (Q.pac (Q.pd_seal (Q.pcT call_list_of cd_listOf rfl E.b_list bt_list (Q.pac (Q.pd_ix ix_seq opd_ix (Q.dv 2) (Q.pd_int)) (Q.pad_nil)))) (Q.pad_nil)))))) (Q.pad_nil)))))
      (Q.pssd_nil)) <|
    Q.pssd_one (Q.psd_ret (Q.pd_meth0 (Q.dv 0) E.k_Machine G_Machine_go_on.me O_Machine_go_on (hr.mono (by decide)) G_Machine_go_on.bd))
theorem sc_Machine_copied : FnScope N_Machine_copied ["self"] (defScope s_Machine_copied) := ⟨rfl,rfl,rfl,by decide +kernel,rfl,by decide +kernel,by decide +kernel⟩
set_option maxHeartbeats 0 in
theorem ok_Machine_copied {f : Addr} {fd : FuncData} (E : Env K mg) (F : Mf K C_Machine "copied" "Machine.copied" s_Machine_copied ["self"] f fd)
    {f_Machine_init : Addr} {fd_Machine_init : FuncData} (G_Machine_init : Mi K C_Machine "Machine.__init__" s_Machine_init ["self", "name", "berths"] f_Machine_init fd_Machine_init) (O_Machine_init : FnOk P w K mg base CX0 1 f_Machine_init fd_Machine_init ["self", "name", "berths"] (upSp K sp_Machine_init)) :
    FnOk P w K mg base CX0 3 f fd ["self"] (upSp K sp_Machine_copied) := by
  refine fun_ok (t := t_Machine_copied sp_Machine_init) F.fn sc_Machine_copied len_Machine_copied (λ cdv A outer s H E' hr => ?_) read_Machine_copied
  refine Jd.h ?_
  exact Q.pssd_cons (Q.psd_set (i := 1) sc_Machine_copied.nd rfl (Or.inl rfl) (Q.pd_make G_Machine_init.mi O_Machine_init (hr.mono (by decide)) rfl E.m_Machine G_Machine_init.bd (Q.pac (Q.pd_fld E.k_Machine E.n_Machine_name (Q.dv 0)) (Q.pac (Q.pd_fld E.k_Machine E.n_Machine_berth_count (Q.dv 0)) (Q.pad_nil))))) <|
    Q.pssd_cons (Q.psd_fld E.k_Machine E.n_Machine_standing (Q.dv 1) (Q.pd_fld E.k_Machine E.n_Machine_standing (Q.dv 0))) <|
    Q.pssd_cons (Q.psd_fld E.k_Machine E.n_Machine_lives (Q.dv 1) (Q.pd_fld E.k_Machine E.n_Machine_lives (Q.dv 0))) <|
    Q.pssd_cons (Q.psd_fld E.k_Machine E.n_Machine_sheet_turn (Q.dv 1) (Q.pd_fld E.k_Machine E.n_Machine_sheet_turn (Q.dv 0))) <|
    Q.pssd_cons (Q.psd_fld E.k_Machine E.n_Machine_laid (Q.dv 1) (Q.pcT call_dictOf cd_dictOf rfl E.b_dict bt_dict (Q.pac (Q.pd_fld E.k_Machine E.n_Machine_laid (Q.dv 0)) (Q.pad_nil)))) <|
    Q.pssd_cons (Q.psd_fld E.k_Machine E.n_Machine_known_leases (Q.dv 1) (Q.pd_seal (Q.pcT call_list_of cd_listOf rfl E.b_list bt_list (Q.pac (Q.pd_fld E.k_Machine E.n_Machine_known_leases (Q.dv 0)) (Q.pad_nil))))) <|
    Q.pssd_one (Q.psd_ret (Q.dv 1))
theorem sc_Machine_lease_at : FnScope N_Machine_lease_at ["self", "store", "turn"] (defScope s_Machine_lease_at) := ⟨rfl,rfl,rfl,by decide +kernel,rfl,by decide +kernel,by decide +kernel⟩
set_option maxHeartbeats 0 in
theorem ok_Machine_lease_at {f : Addr} {fd : FuncData} (E : Env K mg) (F : Mf K C_Machine "lease_at" "Machine.lease_at" s_Machine_lease_at ["self", "store", "turn"] f fd)
    {f_Machine_answers : Addr} {fd_Machine_answers : FuncData} (G_Machine_answers : Mf K C_Machine "answers" "Machine.answers" s_Machine_answers ["self", "number"] f_Machine_answers fd_Machine_answers) (O_Machine_answers : FnOk P w K mg base CX0 2 f_Machine_answers fd_Machine_answers ["self", "number"] (upSp K sp_Machine_answers)) :
    FnOk P w K mg base CX0 3 f fd ["self", "store", "turn"] (upSp K sp_Machine_lease_at) := by
  refine fun_ok (t := t_Machine_lease_at sp_Machine_answers) F.fn sc_Machine_lease_at len_Machine_lease_at (λ cdv A outer s H E' hr => ?_) read_Machine_lease_at
  refine Jd.h ?_
  exact Q.pssd_cons (Q.psd_for PassesOwn.never rfl (Q.pid_items (Q.pd_fld E.k_Machine E.n_Machine_known_leases (Q.dv 0))) (Q.pgd_tup rfl (Q.pgsd_cons (Q.pgd_name (i := 3) sc_Machine_lease_at.nd rfl (Or.inl rfl)) (Q.pgsd_cons (Q.pgd_name (i := 4) sc_Machine_lease_at.nd rfl (Or.inl rfl)) (Q.pgsd_cons (Q.pgd_name (i := 5) sc_Machine_lease_at.nd rfl (Or.inl rfl)) (Q.pgsd_cons (Q.pgd_name (i := 6) sc_Machine_lease_at.nd rfl (Or.inl rfl)) (Q.pgsd_nil))))))
      (Q.pssd_one (Q.psd_if (Q.ptd_w (Q.pwd_and (Q.ptd_cmp (op_eqT hr) opd_eqT (Q.dv 3) (Q.dv 1)) (Q.pwd_and (Q.ptd_cmp op_gt opd_gt (Q.dv 6) (Q.dv 2)) (Q.pwd_and1 (Q.ptd_val (Q.pd_meth (Q.dv 0) E.k_Machine G_Machine_answers.me O_Machine_answers (hr.mono (by decide)) G_Machine_answers.bd (Q.pac (Q.dv 5) (Q.pad_nil))))))))
        (Q.pssd_one (Q.psd_ret (Q.pd_tup (Q.pac (Q.dv 5) (Q.pac (Q.dv 4) (Q.pad_nil))))))
        (Q.pssd_nil)))) <|
    Q.pssd_one (Q.psd_ret (Q.pd_non))
theorem sc_Machine_called : FnScope N_Machine_called ["self"] (defScope s_Machine_called) := ⟨rfl,rfl,rfl,by decide +kernel,rfl,by decide +kernel,by decide +kernel⟩
set_option maxHeartbeats 0 in
theorem ok_Machine_called {f : Addr} {fd : FuncData} (E : Env K mg) (F : Mf K C_Machine "called" "Machine.called" s_Machine_called ["self"] f fd) :
    FnOk P w K mg base CX0 1 f fd ["self"] (upSp K sp_Machine_called) := by
  refine fun_ok (t := t_Machine_called) F.fn sc_Machine_called len_Machine_called (λ cdv A outer s H E' hr => ?_) read_Machine_called
  refine Jd.h ?_
  exact Q.pssd_one (Q.psd_ret (Q.pd_fld E.k_Machine E.n_Machine_name (Q.dv 0)))
theorem sc_Machine_berths : FnScope N_Machine_berths ["self"] (defScope s_Machine_berths) := ⟨rfl,rfl,rfl,by decide +kernel,rfl,by decide +kernel,by decide +kernel⟩
set_option maxHeartbeats 0 in
theorem ok_Machine_berths {f : Addr} {fd : FuncData} (E : Env K mg) (F : Mf K C_Machine "berths" "Machine.berths" s_Machine_berths ["self"] f fd) :
    FnOk P w K mg base CX0 1 f fd ["self"] (upSp K sp_Machine_berths) := by
  refine fun_ok (t := t_Machine_berths) F.fn sc_Machine_berths len_Machine_berths (λ cdv A outer s H E' hr => ?_) read_Machine_berths
  refine Jd.h ?_
  exact Q.pssd_one (Q.psd_ret (Q.pd_fld E.k_Machine E.n_Machine_berth_count (Q.dv 0)))
theorem sc_Machine_life : FnScope N_Machine_life ["self"] (defScope s_Machine_life) := ⟨rfl,rfl,rfl,by decide +kernel,rfl,by decide +kernel,by decide +kernel⟩
set_option maxHeartbeats 0 in
theorem ok_Machine_life {f : Addr} {fd : FuncData} (E : Env K mg) (F : Mf K C_Machine "life" "Machine.life" s_Machine_life ["self"] f fd) :
    FnOk P w K mg base CX0 1 f fd ["self"] (upSp K sp_Machine_life) := by
  refine fun_ok (t := t_Machine_life) F.fn sc_Machine_life len_Machine_life (λ cdv A outer s H E' hr => ?_) read_Machine_life
  refine Jd.h ?_
  exact Q.pssd_one (Q.psd_ret (Q.pd_fld E.k_Machine E.n_Machine_lives (Q.dv 0)))
theorem sc_Machine_stands : FnScope N_Machine_stands ["self"] (defScope s_Machine_stands) := ⟨rfl,rfl,rfl,by decide +kernel,rfl,by decide +kernel,by decide +kernel⟩
set_option maxHeartbeats 0 in
theorem ok_Machine_stands {f : Addr} {fd : FuncData} (E : Env K mg) (F : Mf K C_Machine "stands" "Machine.stands" s_Machine_stands ["self"] f fd) :
    FnOk P w K mg base CX0 1 f fd ["self"] (upSp K sp_Machine_stands) := by
  refine fun_ok (t := t_Machine_stands) F.fn sc_Machine_stands len_Machine_stands (λ cdv A outer s H E' hr => ?_) read_Machine_stands
  refine Jd.h ?_
  exact Q.pssd_one (Q.psd_ret (Q.pd_fld E.k_Machine E.n_Machine_standing (Q.dv 0)))
theorem sc_told_copy : FnScope N_told_copy ["copy"] (defScope s_told_copy) := ⟨rfl,rfl,rfl,by decide +kernel,rfl,by decide +kernel,by decide +kernel⟩
set_option maxHeartbeats 0 in
theorem ok_told_copy {f : Addr} {fd : FuncData} (E : Env K mg) (F : Fn K mg "told_copy" s_told_copy ["copy"] f fd) :
    FnOk P w K mg base CX0 1 f fd ["copy"] (upSp K sp_told_copy) := by
  refine fun_ok (t := t_told_copy) F.fn sc_told_copy len_told_copy (λ cdv A outer s H E' hr => ?_) read_told_copy
  refine Jd.h ?_
  exact Q.pssd_cons (Q.psd_asg (Q.dv 0) (Q.pgd_tup rfl (Q.pgsd_cons (Q.pgd_tup rfl (Q.pgsd_cons (Q.pgd_name (i := 1) sc_told_copy.nd rfl (Or.inl rfl)) (Q.pgsd_cons (Q.pgd_name (i := 2) sc_told_copy.nd rfl (Or.inl rfl)) (Q.pgsd_cons (Q.pgd_name (i := 3) sc_told_copy.nd rfl (Or.inl rfl)) (Q.pgsd_cons (Q.pgd_name (i := 4) sc_told_copy.nd rfl (Or.inl rfl)) (Q.pgsd_cons (Q.pgd_name (i := 5) sc_told_copy.nd rfl (Or.inl rfl)) (Q.pgsd_cons (Q.pgd_name (i := 6) sc_told_copy.nd rfl (Or.inl rfl)) (Q.pgsd_nil)))))))) (Q.pgsd_cons (Q.pgd_name (i := 7) sc_told_copy.nd rfl (Or.inl rfl)) (Q.pgsd_cons (Q.pgd_name (i := 8) sc_told_copy.nd rfl (Or.inl rfl)) (Q.pgsd_nil)))))) <|
    Q.pssd_one (Q.psd_ret (Q.pd_tup (Q.pac (Q.dv 1) (Q.pac (Q.dv 2) (Q.pac (Q.dv 3) (Q.pac (Q.dv 4) (Q.pac (Q.dv 7) (Q.pad_nil))))))))
theorem ndc_6 : (["copy"] : List Str).Nodup := by decide +kernel
theorem sc_Machine_lying : FnScope N_Machine_lying ["self"] (defScope s_Machine_lying) := ⟨rfl,rfl,rfl,by decide +kernel,rfl,by decide +kernel,by decide +kernel⟩
set_option maxHeartbeats 0 in
theorem ok_Machine_lying {f : Addr} {fd : FuncData} (E : Env K mg) (F : Mf K C_Machine "lying" "Machine.lying" s_Machine_lying ["self"] f fd)
    {f_told_copy : Addr} {fd_told_copy : FuncData} (G_told_copy : Fn K mg "told_copy" s_told_copy ["copy"] f_told_copy fd_told_copy) (O_told_copy : FnOk P w K mg base CX0 1 f_told_copy fd_told_copy ["copy"] (upSp K sp_told_copy)) :
    FnOk P w K mg base CX0 2 f fd ["self"] (upSp K sp_Machine_lying) := by
  refine fun_ok (t := t_Machine_lying sp_told_copy) F.fn sc_Machine_lying len_Machine_lying (λ cdv A outer s H E' hr => ?_) read_Machine_lying
  refine Jd.h ?_
  exact Q.pssd_one (Q.psd_ret (Q.pd_still (Q.pd_lc rfl (lcOk (own := (["copy"] : List Str)) (fr := []) rfl) (Q.pid_dvals (Q.pd_fld E.k_Machine E.n_Machine_laid (Q.dv 0))) (λ _ _ _ _ _ _ => Q.pgd_name (i := 0) ndc_6 rfl (Or.inl rfl)) (λ _ _ _ _ _ _ => Q.ptsd_nil) (λ _ _ _ _ _ _ => Q.pcF O_told_copy (hr.mono (by decide)) rfl G_told_copy.mg G_told_copy.fn.kp G_told_copy.bd (Q.pac (Q.dv 0) (Q.pad_nil))))))
theorem sc_Machine_leases : FnScope N_Machine_leases ["self"] (defScope s_Machine_leases) := ⟨rfl,rfl,rfl,by decide +kernel,rfl,by decide +kernel,by decide +kernel⟩
set_option maxHeartbeats 0 in
theorem ok_Machine_leases {f : Addr} {fd : FuncData} (E : Env K mg) (F : Mf K C_Machine "leases" "Machine.leases" s_Machine_leases ["self"] f fd) :
    FnOk P w K mg base CX0 1 f fd ["self"] (upSp K sp_Machine_leases) := by
  refine fun_ok (t := t_Machine_leases) F.fn sc_Machine_leases len_Machine_leases (λ cdv A outer s H E' hr => ?_) read_Machine_leases
  refine Jd.h ?_
  exact Q.pssd_one (Q.psd_ret (Q.pd_seal (Q.pcT call_list_of cd_listOf rfl E.b_list bt_list (Q.pac (Q.pd_fld E.k_Machine E.n_Machine_known_leases (Q.dv 0)) (Q.pad_nil)))))
theorem ndc_7 : (["number", "copy"] : List Str).Nodup := by decide +kernel
theorem sc_Machine_beat : FnScope N_Machine_beat ["self", "turn"] (defScope s_Machine_beat) := ⟨rfl,rfl,rfl,by decide +kernel,rfl,by decide +kernel,by decide +kernel⟩
set_option maxHeartbeats 0 in
theorem ok_Machine_beat {f : Addr} {fd : FuncData} (E : Env K mg) (F : Mf K C_Machine "beat" "Machine.beat" s_Machine_beat ["self", "turn"] f fd)
    {f_is_answering : Addr} {fd_is_answering : FuncData} (G_is_answering : Fn K mg "is_answering" s_is_answering ["copy"] f_is_answering fd_is_answering) (O_is_answering : FnOk P w K mg base CX0 1 f_is_answering fd_is_answering ["copy"] (upSp K sp_is_answering)) :
    FnOk P w K mg base CX0 2 f fd ["self", "turn"] (upSp K sp_Machine_beat) := by
  refine fun_ok (t := t_Machine_beat sp_is_answering) F.fn sc_Machine_beat len_Machine_beat (λ cdv A outer s H E' hr => ?_) read_Machine_beat
  refine Jd.h ?_
  exact Q.pssd_cons (Q.psd_if (Q.ptd_not (Q.ptd_val (Q.pd_fld E.k_Machine E.n_Machine_standing (Q.dv 0))))
      (Q.pssd_one (Q.psd_ret (Q.pd_non)))
      (Q.pssd_nil)) <|
    Q.pssd_cons (Q.psd_still (Q.psd_setLC (i := 2) sc_Machine_beat.nd rfl (Or.inl rfl) rfl (lcOk (own := (["number", "copy"] : List Str)) (fr := []) rfl) (Q.pid_ditems (Q.pd_fld E.k_Machine E.n_Machine_laid (Q.dv 0))) (λ _ _ _ _ _ _ => Q.pgd_tup rfl (Q.pgsd_cons (Q.pgd_name (i := 0) ndc_7 rfl (Or.inl rfl)) (Q.pgsd_cons (Q.pgd_name (i := 1) ndc_7 rfl (Or.inl rfl)) (Q.pgsd_nil)))) (λ _ _ _ _ _ _ => Q.ptsd_nil) (λ _ _ _ _ _ _ => Q.pd_tup (Q.pac (Q.dv 0) (Q.pac (Q.pcF O_is_answering (hr.mono (by decide)) rfl G_is_answering.mg G_is_answering.fn.kp G_is_answering.bd (Q.pac (Q.dv 1) (Q.pad_nil))) (Q.pad_nil)))))) <|
    Q.pssd_one (Q.psd_ret (Q.pd_tup (Q.pac (Q.pd_fld E.k_Machine E.n_Machine_name (Q.dv 0)) (Q.pac (Q.pd_fld E.k_Machine E.n_Machine_lives (Q.dv 0)) (Q.pac (Q.dv 1) (Q.pac (Q.pd_fld E.k_Machine E.n_Machine_sheet_turn (Q.dv 0)) (Q.pac (Q.dv 2) (Q.pad_nil))))))))
theorem ndc_8 : (["_law_store", "_law_machine", "_law_turn"] : List Str).Nodup := by decide +kernel
theorem sc_l_seen : FnScope N_l_seen ["_law_machine", "_law_turn"] (defScope s_l_seen) := ⟨rfl,rfl,rfl,by decide +kernel,rfl,by decide +kernel,by decide +kernel⟩
set_option maxHeartbeats 0 in
theorem ok_l_seen {f : Addr} {fd : FuncData} (E : Env K mg) (F : Fn K mg "_law_seen" s_l_seen ["_law_machine", "_law_turn"] f fd)
    {f_Machine_lease_at : Addr} {fd_Machine_lease_at : FuncData} (G_Machine_lease_at : Mf K C_Machine "lease_at" "Machine.lease_at" s_Machine_lease_at ["self", "store", "turn"] f_Machine_lease_at fd_Machine_lease_at) (O_Machine_lease_at : FnOk P w K mg base CX0 3 f_Machine_lease_at fd_Machine_lease_at ["self", "store", "turn"] (upSp K sp_Machine_lease_at))
    {f_Machine_called : Addr} {fd_Machine_called : FuncData} (G_Machine_called : Mf K C_Machine "called" "Machine.called" s_Machine_called ["self"] f_Machine_called fd_Machine_called) (O_Machine_called : FnOk P w K mg base CX0 1 f_Machine_called fd_Machine_called ["self"] (upSp K sp_Machine_called))
    {f_Machine_berths : Addr} {fd_Machine_berths : FuncData} (G_Machine_berths : Mf K C_Machine "berths" "Machine.berths" s_Machine_berths ["self"] f_Machine_berths fd_Machine_berths) (O_Machine_berths : FnOk P w K mg base CX0 1 f_Machine_berths fd_Machine_berths ["self"] (upSp K sp_Machine_berths))
    {f_Machine_life : Addr} {fd_Machine_life : FuncData} (G_Machine_life : Mf K C_Machine "life" "Machine.life" s_Machine_life ["self"] f_Machine_life fd_Machine_life) (O_Machine_life : FnOk P w K mg base CX0 1 f_Machine_life fd_Machine_life ["self"] (upSp K sp_Machine_life))
    {f_Machine_stands : Addr} {fd_Machine_stands : FuncData} (G_Machine_stands : Mf K C_Machine "stands" "Machine.stands" s_Machine_stands ["self"] f_Machine_stands fd_Machine_stands) (O_Machine_stands : FnOk P w K mg base CX0 1 f_Machine_stands fd_Machine_stands ["self"] (upSp K sp_Machine_stands))
    {f_Machine_lying : Addr} {fd_Machine_lying : FuncData} (G_Machine_lying : Mf K C_Machine "lying" "Machine.lying" s_Machine_lying ["self"] f_Machine_lying fd_Machine_lying) (O_Machine_lying : FnOk P w K mg base CX0 2 f_Machine_lying fd_Machine_lying ["self"] (upSp K sp_Machine_lying))
    {f_Machine_leases : Addr} {fd_Machine_leases : FuncData} (G_Machine_leases : Mf K C_Machine "leases" "Machine.leases" s_Machine_leases ["self"] f_Machine_leases fd_Machine_leases) (O_Machine_leases : FnOk P w K mg base CX0 1 f_Machine_leases fd_Machine_leases ["self"] (upSp K sp_Machine_leases))
    {f_Machine_beat : Addr} {fd_Machine_beat : FuncData} (G_Machine_beat : Mf K C_Machine "beat" "Machine.beat" s_Machine_beat ["self", "turn"] f_Machine_beat fd_Machine_beat) (O_Machine_beat : FnOk P w K mg base CX0 2 f_Machine_beat fd_Machine_beat ["self", "turn"] (upSp K sp_Machine_beat)) :
    FnOk P w K mg base CX0 4 f fd ["_law_machine", "_law_turn"] (upSp K sp_l_seen) := by
  refine fun_ok (t := t_l_seen sp_Machine_lease_at sp_Machine_called sp_Machine_berths sp_Machine_life sp_Machine_stands sp_Machine_lying sp_Machine_leases sp_Machine_beat) F.fn sc_l_seen len_l_seen (λ cdv A outer s H E' hr => ?_) read_l_seen
  refine Jd.h ?_
  exact Q.pssd_cons (Q.psd_setLC (i := 2) sc_l_seen.nd rfl (Or.inl rfl) rfl (lcOk (own := (["_law_store"] : List Str)) (fr := [0,1]) rfl) (Q.pid_items (Q.pd_lst (Q.pac (Q.pd_str) (Q.pac (Q.pd_str) (Q.pac (Q.pd_str) (Q.pac (Q.pd_str) (Q.pad_nil))))))) (λ _ _ _ _ _ _ => Q.pgd_name (i := 0) ndc_8 rfl (Or.inl rfl)) (λ _ _ _ _ _ _ => Q.ptsd_nil) (λ _ _ _ _ _ _ => Q.pd_meth (Q.dv 1) E.k_Machine G_Machine_lease_at.me O_Machine_lease_at (hr.mono (by decide)) G_Machine_lease_at.bd (Q.pac (Q.dv 0) (Q.pac (Q.dv 2) (Q.pad_nil))))) <|
    Q.pssd_cons (Q.psd_set (i := 3) sc_l_seen.nd rfl (Or.inl rfl) (Q.pd_lst (Q.pac (Q.pd_meth0 (Q.dv 0) E.k_Machine G_Machine_called.me O_Machine_called (hr.mono (by decide)) G_Machine_called.bd) (Q.pac (Q.pd_meth0 (Q.dv 0) E.k_Machine G_Machine_berths.me O_Machine_berths (hr.mono (by decide)) G_Machine_berths.bd) (Q.pac (Q.pd_meth0 (Q.dv 0) E.k_Machine G_Machine_life.me O_Machine_life (hr.mono (by decide)) G_Machine_life.bd) (Q.pac (Q.pd_meth0 (Q.dv 0) E.k_Machine G_Machine_stands.me O_Machine_stands (hr.mono (by decide)) G_Machine_stands.bd) (Q.pac (Q.pd_meth0 (Q.dv 0) E.k_Machine G_Machine_lying.me O_Machine_lying (hr.mono (by decide)) G_Machine_lying.bd) (Q.pac (Q.pd_meth0 (Q.dv 0) E.k_Machine G_Machine_leases.me O_Machine_leases (hr.mono (by decide)) G_Machine_leases.bd) (Q.pad_nil))))))))) <|
    Q.pssd_one (Q.psd_ret (Q.pcB (call_reprT hr) cd_reprT rfl E.b_repr bb_repr (Q.pac (Q.pd_cat (Q.dv 3) (Q.pd_lst (Q.pac (Q.pd_meth (Q.dv 0) E.k_Machine G_Machine_beat.me O_Machine_beat (hr.mono (by decide)) G_Machine_beat.bd (Q.pac (Q.dv 1) (Q.pad_nil))) (Q.pac (Q.dv 2) (Q.pad_nil))))) (Q.pad_nil))))
theorem ndc_9 : (["_law_one"] : List Str).Nodup := by decide +kernel
theorem ndc_10 : (["_law_row", "_law_came"] : List Str).Nodup := by decide +kernel
theorem sc_l_right : FnScope N_l_right ["_law_machine", "_law_came", "_law_sheet_here"] (defScope s_l_right) := ⟨rfl,rfl,rfl,by decide +kernel,rfl,by decide +kernel,by decide +kernel⟩
set_option maxHeartbeats 0 in
theorem ok_l_right {f : Addr} {fd : FuncData} (E : Env K mg) (F : Fn K mg "_law_right" s_l_right ["_law_machine", "_law_came", "_law_sheet_here"] f fd)
    {f_Machine_lying : Addr} {fd_Machine_lying : FuncData} (G_Machine_lying : Mf K C_Machine "lying" "Machine.lying" s_Machine_lying ["self"] f_Machine_lying fd_Machine_lying) (O_Machine_lying : FnOk P w K mg base CX0 2 f_Machine_lying fd_Machine_lying ["self"] (upSp K sp_Machine_lying))
    {f_Machine_leases : Addr} {fd_Machine_leases : FuncData} (G_Machine_leases : Mf K C_Machine "leases" "Machine.leases" s_Machine_leases ["self"] f_Machine_leases fd_Machine_leases) (O_Machine_leases : FnOk P w K mg base CX0 1 f_Machine_leases fd_Machine_leases ["self"] (upSp K sp_Machine_leases))
    {f_Machine_berths : Addr} {fd_Machine_berths : FuncData} (G_Machine_berths : Mf K C_Machine "berths" "Machine.berths" s_Machine_berths ["self"] f_Machine_berths fd_Machine_berths) (O_Machine_berths : FnOk P w K mg base CX0 1 f_Machine_berths fd_Machine_berths ["self"] (upSp K sp_Machine_berths)) :
    FnOk P w K mg base CX0 3 f fd ["_law_machine", "_law_came", "_law_sheet_here"] (upSp K sp_l_right) := by
  refine fun_ok (t := t_l_right sp_Machine_lying sp_Machine_leases sp_Machine_berths) F.fn sc_l_right len_l_right (λ cdv A outer s H E' hr => ?_) read_l_right
  refine Jd.h ?_
  exact Q.pssd_cons (Q.psd_setLC (i := 3) sc_l_right.nd rfl (Or.inl rfl) rfl (lcOk (own := (["_law_one"] : List Str)) (fr := []) rfl) (Q.pid_items (Q.pd_meth0 (Q.dv 0) E.k_Machine G_Machine_lying.me O_Machine_lying (hr.mono (by decide)) G_Machine_lying.bd)) (λ _ _ _ _ _ _ => Q.pgd_name (i := 0) ndc_9 rfl (Or.inl rfl)) (λ _ _ _ _ _ _ => Q.ptsd_nil) (λ _ _ _ _ _ _ => Q.pd_slice (Q.dv 0) (Q.pod_none) (Q.pod_some (Q.pd_int)))) <|
    Q.pssd_cons (Q.psd_if (Q.ptd_cmp op_isN opd_isN (Q.dv 2) (Q.pd_non))
      (Q.pssd_one (Q.psd_ret (Q.pd_and (Q.pd_cmp (op_eqT hr) opd_eqT (Q.dv 3) (Q.pd_lst (Q.pad_nil))) (Q.pd_one (Q.pd_cmp (op_eqT hr) opd_eqT (Q.pd_meth0 (Q.dv 0) E.k_Machine G_Machine_leases.me O_Machine_leases (hr.mono (by decide)) G_Machine_leases.bd) (Q.pd_lst (Q.pad_nil)))))))
      (Q.pssd_nil)) <|
    Q.pssd_cons (Q.psd_if (Q.ptd_cmp (op_neT hr) opd_neT (Q.dv 3) (Q.pd_lc rfl (lcOk (own := (["_law_row"] : List Str)) (fr := [1]) rfl) (Q.pid_items (Q.pd_ix ix_seq opd_ix (Q.dv 2) (Q.pd_int))) (λ _ _ _ _ _ _ => Q.pgd_name (i := 0) ndc_10 rfl (Or.inl rfl)) (λ _ _ _ _ _ _ => Q.ptsd_nil) (λ _ _ _ _ _ _ => Q.pd_op op_catT opd_catT (Q.pd_tup (Q.pac (Q.pd_ix ix_seq opd_ix (Q.dv 0) (Q.pd_int)) (Q.pad_nil))) (Q.pd_dget (hu_of hr) (Q.dv 1) (Q.pd_ix ix_seq opd_ix (Q.dv 0) (Q.pd_int))))))
      (Q.pssd_one (Q.psd_ret (Q.pd_bl)))
      (Q.pssd_nil)) <|
    Q.pssd_one (Q.psd_ret (Q.pd_and (Q.pd_cmp (op_eqT hr) opd_eqT (Q.pd_meth0 (Q.dv 0) E.k_Machine G_Machine_leases.me O_Machine_leases (hr.mono (by decide)) G_Machine_leases.bd) (Q.pd_ix ix_seq opd_ix (Q.dv 2) (Q.pd_int))) (Q.pd_one (Q.pd_cmp op_le2 opd_le2 (Q.pcB call_len cd_len rfl E.b_len bb_len (Q.pac (Q.pd_meth0 (Q.dv 0) E.k_Machine G_Machine_lying.me O_Machine_lying (hr.mono (by decide)) G_Machine_lying.bd) (Q.pad_nil))) (Q.pd_meth0 (Q.dv 0) E.k_Machine G_Machine_berths.me O_Machine_berths (hr.mono (by decide)) G_Machine_berths.bd)))))
theorem ndc_11 : (["_law_machine", "_law_way", "_law_thing"] : List Str).Nodup := by decide +kernel
theorem ndc_12 : (["_law_row", "_law_came"] : List Str).Nodup := by decide +kernel
theorem ndc_13 : (["_law_machine", "_law_turn"] : List Str).Nodup := by decide +kernel
theorem ndc_14 : (["_law_machine"] : List Str).Nodup := by decide +kernel
theorem ndc_15 : (["_law_machine"] : List Str).Nodup := by decide +kernel
theorem ndc_16 : (["_law_machine"] : List Str).Nodup := by decide +kernel
theorem sc_law : FnScope N_law ["_law_script"] (defScope s_law) := ⟨rfl,rfl,rfl,by decide +kernel,rfl,by decide +kernel,by decide +kernel⟩
set_option maxHeartbeats 0 in
theorem ok_law {f : Addr} {fd : FuncData} (E : Env K mg) (F : Fn K mg "law" s_law ["_law_script"] f fd)
    {f_l_bag : Addr} {fd_l_bag : FuncData} (G_l_bag : Fn K mg "_law_bag" s_l_bag ["_law_script"] f_l_bag fd_l_bag) (O_l_bag : FnOk P w K mg base CX0 1 f_l_bag fd_l_bag ["_law_script"] (upSp K sp_l_bag))
    {f_Machine_init : Addr} {fd_Machine_init : FuncData} (G_Machine_init : Mi K C_Machine "Machine.__init__" s_Machine_init ["self", "name", "berths"] f_Machine_init fd_Machine_init) (O_Machine_init : FnOk P w K mg base CX0 1 f_Machine_init fd_Machine_init ["self", "name", "berths"] (upSp K sp_Machine_init))
    {f_l_take : Addr} {fd_l_take : FuncData} (G_l_take : Fn K mg "_law_take" s_l_take ["_law_bag_here", "_law_many"] f_l_take fd_l_take) (O_l_take : FnOk P w K mg base CX0 1 f_l_take fd_l_take ["_law_bag_here", "_law_many"] (upSp K sp_l_take))
    {f_l_drawn : Addr} {fd_l_drawn : FuncData} (G_l_drawn : Fn K mg "_law_drawn" s_l_drawn ["_law_bag_here", "_law_turn", "_law_life"] f_l_drawn fd_l_drawn) (O_l_drawn : FnOk P w K mg base CX0 4 f_l_drawn fd_l_drawn ["_law_bag_here", "_law_turn", "_law_life"] (upSp K sp_l_drawn))
    {f_l_done : Addr} {fd_l_done : FuncData} (G_l_done : Fn K mg "_law_done" s_l_done ["_law_machine", "_law_way", "_law_thing"] f_l_done fd_l_done) (O_l_done : FnOk P w K mg base CX0 4 f_l_done fd_l_done ["_law_machine", "_law_way", "_law_thing"] (upSp K sp_l_done))
    {f_Machine_copied : Addr} {fd_Machine_copied : FuncData} (G_Machine_copied : Mf K C_Machine "copied" "Machine.copied" s_Machine_copied ["self"] f_Machine_copied fd_Machine_copied) (O_Machine_copied : FnOk P w K mg base CX0 3 f_Machine_copied fd_Machine_copied ["self"] (upSp K sp_Machine_copied))
    {f_l_seen : Addr} {fd_l_seen : FuncData} (G_l_seen : Fn K mg "_law_seen" s_l_seen ["_law_machine", "_law_turn"] f_l_seen fd_l_seen) (O_l_seen : FnOk P w K mg base CX0 4 f_l_seen fd_l_seen ["_law_machine", "_law_turn"] (upSp K sp_l_seen))
    {f_l_right : Addr} {fd_l_right : FuncData} (G_l_right : Fn K mg "_law_right" s_l_right ["_law_machine", "_law_came", "_law_sheet_here"] f_l_right fd_l_right) (O_l_right : FnOk P w K mg base CX0 3 f_l_right fd_l_right ["_law_machine", "_law_came", "_law_sheet_here"] (upSp K sp_l_right))
    {f_Machine_fail : Addr} {fd_Machine_fail : FuncData} (G_Machine_fail : Mf K C_Machine "fail" "Machine.fail" s_Machine_fail ["self", "number"] f_Machine_fail fd_Machine_fail) (O_Machine_fail : FnOk P w K mg base CX0 3 f_Machine_fail fd_Machine_fail ["self", "number"] (upSp K sp_Machine_fail))
    {f_Machine_go_on : Addr} {fd_Machine_go_on : FuncData} (G_Machine_go_on : Mf K C_Machine "go_on" "Machine.go_on" s_Machine_go_on ["self"] f_Machine_go_on fd_Machine_go_on) (O_Machine_go_on : FnOk P w K mg base CX0 3 f_Machine_go_on fd_Machine_go_on ["self"] (upSp K sp_Machine_go_on))
    {f_Machine_rise : Addr} {fd_Machine_rise : FuncData} (G_Machine_rise : Mf K C_Machine "rise" "Machine.rise" s_Machine_rise ["self"] f_Machine_rise fd_Machine_rise) (O_Machine_rise : FnOk P w K mg base CX0 1 f_Machine_rise fd_Machine_rise ["self"] (upSp K sp_Machine_rise))
    {f_Machine_take : Addr} {fd_Machine_take : FuncData} (G_Machine_take : Mf K C_Machine "take" "Machine.take" s_Machine_take ["self", "sheet"] f_Machine_take fd_Machine_take) (O_Machine_take : FnOk P w K mg base CX0 2 f_Machine_take fd_Machine_take ["self", "sheet"] (upSp K sp_Machine_take))
    {f_Machine_life : Addr} {fd_Machine_life : FuncData} (G_Machine_life : Mf K C_Machine "life" "Machine.life" s_Machine_life ["self"] f_Machine_life fd_Machine_life) (O_Machine_life : FnOk P w K mg base CX0 1 f_Machine_life fd_Machine_life ["self"] (upSp K sp_Machine_life))
    {f_Machine_fall : Addr} {fd_Machine_fall : FuncData} (G_Machine_fall : Mf K C_Machine "fall" "Machine.fall" s_Machine_fall ["self"] f_Machine_fall fd_Machine_fall) (O_Machine_fall : FnOk P w K mg base CX0 1 f_Machine_fall fd_Machine_fall ["self"] (upSp K sp_Machine_fall)) :
    FnOk P w K mg base CX0 5 f fd ["_law_script"] (upSp K sp_law) := by
  refine fun_ok (t := t_law sp_l_bag sp_Machine_init sp_l_take sp_l_drawn sp_l_done sp_Machine_copied sp_l_seen sp_l_right sp_Machine_fail sp_Machine_go_on sp_Machine_rise sp_Machine_take sp_Machine_life sp_Machine_fall) F.fn sc_law len_law (λ cdv A outer s H E' hr => ?_) read_law
  refine Jd.h ?_
  exact Q.pssd_cons (Q.psd_set (i := 1) sc_law.nd rfl (Or.inl rfl) (Q.pcF O_l_bag (hr.mono (by decide)) rfl G_l_bag.mg G_l_bag.fn.kp G_l_bag.bd (Q.pac (Q.dv 0) (Q.pad_nil)))) <|
    Q.pssd_cons (Q.psd_set (i := 2) sc_law.nd rfl (Or.inl rfl) (Q.pd_lstM (Q.pac (Q.pd_make G_Machine_init.mi O_Machine_init (hr.mono (by decide)) rfl E.m_Machine G_Machine_init.bd (Q.pac (Q.pd_str) (Q.pac (Q.pd_int) (Q.pad_nil)))) (Q.pad_nil)))) <|
    Q.pssd_cons (Q.psd_parG rfl (Q.pac (Q.pd_bl) (Q.pac (Q.pd_int) (Q.pac (Q.pd_non) (Q.pac (Q.pd_int) (Q.pac (Q.pd_newDic) (Q.pad_nil)))))) (Q.pgsd_cons (Q.pgd_name (i := 3) sc_law.nd rfl (Or.inl rfl)) (Q.pgsd_cons (Q.pgd_name (i := 4) sc_law.nd rfl (Or.inl rfl)) (Q.pgsd_cons (Q.pgd_name (i := 5) sc_law.nd rfl (Or.inl rfl)) (Q.pgsd_cons (Q.pgd_name (i := 6) sc_law.nd rfl (Or.inl rfl)) (Q.pgsd_cons (Q.pgd_name (i := 7) sc_law.nd rfl (Or.inr rfl)) (Q.pgsd_nil))))))) <|
    Q.pssd_cons (Q.psd_for PassesOwn.never rfl (Q.pid_range2 rfl E.b_range (Q.pac (Q.pd_int) (Q.pac (Q.pd_op op_add2 opd_add2 (Q.pd_int) (Q.pcF O_l_take (hr.mono (by decide)) rfl G_l_take.mg G_l_take.fn.kp G_l_take.bd (Q.pac (Q.dv 1) (Q.pac (Q.pd_int) (Q.pad_nil))))) (Q.pad_nil)))) (Q.pgd_name (i := 8) sc_law.nd rfl (Or.inr rfl))
      (Q.pssd_cons (Q.psd_asg (Q.pcF O_l_drawn (hr.mono (by decide)) rfl G_l_drawn.mg G_l_drawn.fn.kp G_l_drawn.bd (Q.pac (Q.dv 1) (Q.pac (Q.dv 8) (Q.pac (Q.dv 4) (Q.pad_nil))))) (Q.pgd_tup rfl (Q.pgsd_cons (Q.pgd_name (i := 9) sc_law.nd rfl (Or.inr rfl)) (Q.pgsd_cons (Q.pgd_name (i := 10) sc_law.nd rfl (Or.inr rfl)) (Q.pgsd_nil))))) <|
      Q.pssd_cons (Q.psd_set (i := 11) sc_law.nd rfl (Or.inl rfl) (Q.pd_and (Q.pd_cmp (op_eqT hr) opd_eqT (Q.dv 9) (Q.pd_int)) (Q.pd_and (Q.dv 3) (Q.pd_and (Q.pd_cmp (op_eqT hr) opd_eqT (Q.pd_ix ix_seq opd_ix (Q.dv 10) (Q.pd_int)) (Q.dv 4)) (Q.pd_one (Q.pd_cmp op_gt opd_gt (Q.pd_ix ix_seq opd_ix (Q.dv 10) (Q.pd_int)) (Q.dv 6))))))) <|
      Q.pssd_cons (Q.psd_stillL (Q.psd_setLC (i := 12) sc_law.nd rfl (Or.inl rfl) rfl (lcOk (own := (["_law_machine"] : List Str)) (fr := [9,10]) rfl) (Q.pid_itemsF (Q.dv 2)) (λ _ _ _ _ _ _ => Q.pgd_name (i := 0) ndc_11 rfl (Or.inl rfl)) (λ _ _ _ _ _ _ => Q.ptsd_nil) (λ _ _ _ _ _ _ => Q.pcF O_l_done (hr.mono (by decide)) rfl G_l_done.mg G_l_done.fn.kp G_l_done.bd (Q.pac (Q.dv 0) (Q.pac (Q.dv 1) (Q.pac (Q.dv 2) (Q.pad_nil))))))) <|
      Q.pssd_cons (Q.psd_if (Q.ptd_w (Q.pwd_or (Q.ptd_cmp (op_neT hr) opd_neT (Q.pcB (call_reprT hr) cd_reprT rfl E.b_repr bb_repr (Q.pac (Q.dv 12) (Q.pad_nil))) (Q.pcB (call_reprT hr) cd_reprT rfl E.b_repr bb_repr (Q.pac (Q.pd_op op_rep opd_rep (Q.pd_lstM (Q.pac (Q.pd_ix ix_seq opd_ix (Q.dv 12) (Q.pd_int)) (Q.pad_nil))) (Q.pcB call_len cd_len rfl E.b_len bb_len (Q.pac (Q.dv 12) (Q.pad_nil)))) (Q.pad_nil)))) (Q.pwd_or1 (Q.ptd_w (Q.pwd_and (Q.ptd_cmp (op_eqT hr) opd_eqT (Q.dv 9) (Q.pd_int)) (Q.pwd_and1 (Q.ptd_cmp (op_neT hr) opd_neT (Q.pcB (call_reprT hr) cd_reprT rfl E.b_repr bb_repr (Q.pac (Q.pd_ix ix_seq opd_ix (Q.dv 12) (Q.pd_int)) (Q.pad_nil))) (Q.pcB (call_reprT hr) cd_reprT rfl E.b_repr bb_repr (Q.pac (Q.dv 11) (Q.pad_nil))))))))))
        (Q.pssd_one (Q.psd_ret (Q.pd_bl)))
        (Q.pssd_nil)) <|
      Q.pssd_cons (Q.psd_if (Q.ptd_w (Q.pwd_and (Q.ptd_cmp (op_eqT hr) opd_eqT (Q.dv 9) (Q.pd_int)) (Q.pwd_and1 (Q.ptd_not (Q.ptd_val (Q.dv 3))))))
        (Q.pssd_one (Q.psd_par3 (i := 3) (j := 4) (l := 6) rfl sc_law.nd rfl rfl rfl rfl rfl rfl (Q.pac (Q.pd_bl) (Q.pac (Q.pd_op op_add2 opd_add2 (Q.dv 4) (Q.pd_int)) (Q.pac (Q.pd_int) (Q.pad_nil))))))
        (Q.pssd_nil)) <|
      Q.pssd_cons (Q.psd_if (Q.ptd_cmp (op_eqT hr) opd_eqT (Q.dv 9) (Q.pd_int))
        (Q.pssd_one (Q.psd_set (i := 3) sc_law.nd rfl (Or.inl rfl) (Q.pd_bl)))
        (Q.pssd_nil)) <|
      Q.pssd_cons (Q.psd_if (Q.ptd_w (Q.pwd_and (Q.ptd_cmp op_lt opd_lt (Q.dv 9) (Q.pd_int)) (Q.pwd_and1 (Q.ptd_val (Q.pd_ix ix_seq opd_ix (Q.dv 12) (Q.pd_int))))))
        (Q.pssd_one (Q.psd_parG rfl (Q.pac (Q.pd_non) (Q.pac (Q.pd_newDic) (Q.pad_nil))) (Q.pgsd_cons (Q.pgd_name (i := 5) sc_law.nd rfl (Or.inl rfl)) (Q.pgsd_cons (Q.pgd_name (i := 7) sc_law.nd rfl (Or.inr rfl)) (Q.pgsd_nil)))))
        (Q.pssd_nil)) <|
      Q.pssd_cons (Q.psd_if (Q.ptd_val (Q.dv 11))
        (Q.pssd_cons (Q.psd_par (i := 5) (j := 6) rfl sc_law.nd rfl rfl (by decide) rfl rfl (Q.pac (Q.dv 10) (Q.pac (Q.pd_ix ix_seq opd_ix (Q.dv 10) (Q.pd_int)) (Q.pad_nil)))) <|
        Q.pssd_one (Q.psd_set (i := 7) sc_law.nd rfl (Or.inr rfl) (Q.pcT (call_dictPs rfl) cd_dictPs rfl E.b_dict bt_dict (Q.pac (Q.pd_lc rfl (lcOk (own := (["_law_row"] : List Str)) (fr := [7]) rfl) (Q.pid_items (Q.pd_ix ix_seq opd_ix (Q.dv 10) (Q.pd_int))) (λ _ _ _ _ _ _ => Q.pgd_name (i := 0) ndc_12 rfl (Or.inl rfl)) (λ _ _ _ _ _ _ => Q.ptsd_nil) (λ _ _ _ _ _ _ => Q.pd_tup (Q.pac (Q.pd_ix ix_seq opd_ix (Q.dv 0) (Q.pd_int)) (Q.pac (Q.pd_get2 (hu_of hr) (Q.dv 1) (Q.pd_ix ix_seq opd_ix (Q.dv 0) (Q.pd_int)) (Q.pcT call_tuple_of cd_tupleOf rfl E.b_tuple bt_tuple (Q.pac (Q.pd_slice (Q.dv 0) (Q.pod_some (Q.pd_int)) (Q.pod_some (Q.pd_int))) (Q.pad_nil)))) (Q.pad_nil))))) (Q.pad_nil)))))
        (Q.pssd_nil)) <|
      Q.pssd_cons (Q.psd_if (Q.ptd_w (Q.pwd_and (Q.ptd_cmp op_lt opd_lt (Q.pcB call_len cd_len rfl E.b_len bb_len (Q.pac (Q.dv 2) (Q.pad_nil))) (Q.pd_int)) (Q.pwd_and1 (Q.ptd_cmp (op_eqT hr) opd_eqT (Q.pcF O_l_take (hr.mono (by decide)) rfl G_l_take.mg G_l_take.fn.kp G_l_take.bd (Q.pac (Q.dv 1) (Q.pac (Q.pd_int) (Q.pad_nil)))) (Q.pd_int)))))
        (Q.pssd_one (Q.psd_expr (Q.pd_append (Q.dv 2) (Q.pd_meth0 (Q.pd_ix ix_seq opd_ix (Q.dv 2) (Q.pcF O_l_take (hr.mono (by decide)) rfl G_l_take.mg G_l_take.fn.kp G_l_take.bd (Q.pac (Q.dv 1) (Q.pac (Q.pcB call_len cd_len rfl E.b_len bb_len (Q.pac (Q.dv 2) (Q.pad_nil))) (Q.pad_nil))))) E.k_Machine G_Machine_copied.me O_Machine_copied (hr.mono (by decide)) G_Machine_copied.bd))))
        (Q.pssd_nil)) <|
      Q.pssd_cons (Q.psd_stillL (Q.psd_setLC (i := 13) sc_law.nd rfl (Or.inl rfl) rfl (lcOk (own := (["_law_machine"] : List Str)) (fr := [8]) rfl) (Q.pid_itemsF (Q.dv 2)) (λ _ _ _ _ _ _ => Q.pgd_name (i := 0) ndc_13 rfl (Or.inl rfl)) (λ _ _ _ _ _ _ => Q.ptsd_nil) (λ _ _ _ _ _ _ => Q.pcF O_l_seen (hr.mono (by decide)) rfl G_l_seen.mg G_l_seen.fn.kp G_l_seen.bd (Q.pac (Q.dv 0) (Q.pac (Q.dv 1) (Q.pad_nil)))))) <|
      Q.pssd_one (Q.psd_if (Q.ptd_w (Q.pwd_or (Q.ptd_cmp (op_neT hr) opd_neT (Q.dv 13) (Q.pd_op op_rep opd_rep (Q.pd_lstM (Q.pac (Q.pd_ix ix_seq opd_ix (Q.dv 13) (Q.pd_int)) (Q.pad_nil))) (Q.pcB call_len cd_len rfl E.b_len bb_len (Q.pac (Q.dv 13) (Q.pad_nil))))) (Q.pwd_or1 (Q.ptd_not (Q.ptd_val (Q.pcF O_l_right (hr.mono (by decide)) rfl G_l_right.mg G_l_right.fn.kp G_l_right.bd (Q.pac (Q.pd_ix ix_seq opd_ix (Q.dv 2) (Q.pd_int)) (Q.pac (Q.dv 7) (Q.pac (Q.dv 5) (Q.pad_nil))))))))))
        (Q.pssd_one (Q.psd_ret (Q.pd_bl)))
        (Q.pssd_nil)))) <|
    Q.pssd_cons (Q.psd_setLC (i := 14) sc_law.nd rfl (Or.inl rfl) rfl (lcOk (own := (["_law_machine"] : List Str)) (fr := []) rfl) (Q.pid_itemsN (Q.pd_sliceW (Q.dv 2) (Q.pod_some (Q.pd_int)) (Q.pod_none))) (λ _ _ _ _ _ _ => Q.pgd_name (i := 0) ndc_14 rfl (Or.inl rfl)) (λ _ _ _ _ _ _ => Q.ptsd_nil) (λ _ _ _ _ _ _ => Q.pcF O_l_seen (hr.mono (by decide)) rfl G_l_seen.mg G_l_seen.fn.kp G_l_seen.bd (Q.pac (Q.dv 0) (Q.pac (Q.pd_int) (Q.pad_nil))))) <|
    Q.pssd_cons (Q.psd_for PassesOwn.never rfl (Q.pid_range2 rfl E.b_range (Q.pac (Q.pd_int) (Q.pac (Q.pd_int) (Q.pad_nil)))) (Q.pgd_name (i := 15) sc_law.nd rfl (Or.inl rfl))
      (Q.pssd_one (Q.psd_expr (Q.pd_meth (Q.pd_ix ix_seq opd_ix (Q.dv 2) (Q.pd_int)) E.k_Machine G_Machine_fail.me O_Machine_fail (hr.mono (by decide)) G_Machine_fail.bd (Q.pac (Q.dv 15) (Q.pad_nil)))))) <|
    Q.pssd_cons (Q.psd_for PassesOwn.never rfl (Q.pid_range1 rfl E.b_range (Q.pac (Q.pd_int) (Q.pad_nil))) (Q.pgd_name (i := 8) sc_law.nd rfl (Or.inr rfl))
      (Q.pssd_cons (Q.psd_expr (Q.pd_meth0 (Q.pd_ix ix_seq opd_ix (Q.dv 2) (Q.pd_int)) E.k_Machine G_Machine_go_on.me O_Machine_go_on (hr.mono (by decide)) G_Machine_go_on.bd)) <|
      Q.pssd_one (Q.psd_if (Q.ptd_cmp (op_neT hr) opd_neT (Q.pd_lc rfl (lcOk (own := (["_law_machine"] : List Str)) (fr := []) rfl) (Q.pid_itemsN (Q.pd_sliceW (Q.dv 2) (Q.pod_some (Q.pd_int)) (Q.pod_none))) (λ _ _ _ _ _ _ => Q.pgd_name (i := 0) ndc_15 rfl (Or.inl rfl)) (λ _ _ _ _ _ _ => Q.ptsd_nil) (λ _ _ _ _ _ _ => Q.pcF O_l_seen (hr.mono (by decide)) rfl G_l_seen.mg G_l_seen.fn.kp G_l_seen.bd (Q.pac (Q.dv 0) (Q.pac (Q.pd_int) (Q.pad_nil))))) (Q.dv 14))
        (Q.pssd_one (Q.psd_ret (Q.pd_bl)))
        (Q.pssd_nil)))) <|
    Q.pssd_cons (Q.psd_expr (Q.pd_meth0 (Q.pd_ix ix_seq opd_ix (Q.dv 2) (Q.pd_int)) E.k_Machine G_Machine_rise.me O_Machine_rise (hr.mono (by decide)) G_Machine_rise.bd)) <|
    Q.pssd_cons (Q.psd_expr (Q.pd_meth (Q.pd_ix ix_seq opd_ix (Q.dv 2) (Q.pd_int)) E.k_Machine G_Machine_take.me O_Machine_take (hr.mono (by decide)) G_Machine_take.bd (Q.pac (Q.pd_tup (Q.pac (Q.pd_meth0 (Q.pd_ix ix_seq opd_ix (Q.dv 2) (Q.pd_int)) E.k_Machine G_Machine_life.me O_Machine_life (hr.mono (by decide)) G_Machine_life.bd) (Q.pac (Q.pd_op op_pow opd_pow (Q.pd_int) (Q.pd_int)) (Q.pac (Q.pd_lst (Q.pad_nil)) (Q.pac (Q.pd_lst (Q.pad_nil)) (Q.pad_nil)))))) (Q.pad_nil)))) <|
    Q.pssd_cons (Q.psd_expr (Q.pd_meth0 (Q.pd_ix ix_seq opd_ix (Q.dv 2) (Q.pd_int)) E.k_Machine G_Machine_fall.me O_Machine_fall (hr.mono (by decide)) G_Machine_fall.bd)) <|
    Q.pssd_one (Q.psd_ret (Q.pd_cmp (op_eqT hr) opd_eqT (Q.pd_lc rfl (lcOk (own := (["_law_machine"] : List Str)) (fr := []) rfl) (Q.pid_itemsN (Q.pd_sliceW (Q.dv 2) (Q.pod_some (Q.pd_int)) (Q.pod_none))) (λ _ _ _ _ _ _ => Q.pgd_name (i := 0) ndc_16 rfl (Or.inl rfl)) (λ _ _ _ _ _ _ => Q.ptsd_nil) (λ _ _ _ _ _ _ => Q.pcF O_l_seen (hr.mono (by decide)) rfl G_l_seen.mg G_l_seen.fn.kp G_l_seen.bd (Q.pac (Q.dv 0) (Q.pac (Q.pd_int) (Q.pad_nil))))) (Q.dv 14)))
theorem all_mk {l : PySem.W.OpenLaw} {w : World} {K : PySem.W.Frag} {h : Heap} {mg : Str -> Option Value} {fa : Addr} (X : K.In h) (G : h.Ns mainGlobals mg) (hfa : mg "law" = some (.ref fa))
    {f_l_bag : Addr} {oc_l_bag kV_l_bag dc_l_bag pm_l_bag cd_l_bag ct_l_bag : Value} {od_l_bag an_l_bag : Option Addr} {sl_l_bag : Array (Option Value)}
    (a_l_bag : PySem.W.nsIn K mainGlobals "_law_bag" = some (some (.ref f_l_bag))) (l_l_bag : K.lookup f_l_bag = some ⟨oc_l_bag,od_l_bag,.func (PySem.W.fnOf "_law_bag" "_law_bag" (defArgs s_l_bag) (defBody s_l_bag) (defScope s_l_bag) .none kV_l_bag dc_l_bag pm_l_bag an_l_bag cd_l_bag ct_l_bag),sl_l_bag⟩) (c_l_bag : PySem.W.codeIn K cd_l_bag "_law_bag" = true) (k_l_bag : PySem.W.keepIn K (.ref f_l_bag) = true)
    {f_Machine_init : Addr} {oc_Machine_init kV_Machine_init dc_Machine_init pm_Machine_init cd_Machine_init ct_Machine_init : Value} {od_Machine_init an_Machine_init : Option Addr} {sl_Machine_init : Array (Option Value)}
    (a_Machine_init : PySem.W.findIn K (.ref C_Machine) "__init__" = some (some (.ref f_Machine_init))) (i_Machine_init : PySem.W.isFn K (.ref f_Machine_init) = true) (l_Machine_init : K.lookup f_Machine_init = some ⟨oc_Machine_init,od_Machine_init,.func (PySem.W.fnOf "__init__" "Machine.__init__" (defArgs s_Machine_init) (defBody s_Machine_init) (defScope s_Machine_init) .none kV_Machine_init dc_Machine_init pm_Machine_init an_Machine_init cd_Machine_init ct_Machine_init),sl_Machine_init⟩) (c_Machine_init : PySem.W.codeIn K cd_Machine_init "Machine.__init__" = true) (k_Machine_init : PySem.W.keepIn K (.ref f_Machine_init) = true)
    {f_l_take : Addr} {oc_l_take kV_l_take dc_l_take pm_l_take cd_l_take ct_l_take : Value} {od_l_take an_l_take : Option Addr} {sl_l_take : Array (Option Value)}
    (a_l_take : PySem.W.nsIn K mainGlobals "_law_take" = some (some (.ref f_l_take))) (l_l_take : K.lookup f_l_take = some ⟨oc_l_take,od_l_take,.func (PySem.W.fnOf "_law_take" "_law_take" (defArgs s_l_take) (defBody s_l_take) (defScope s_l_take) .none kV_l_take dc_l_take pm_l_take an_l_take cd_l_take ct_l_take),sl_l_take⟩) (c_l_take : PySem.W.codeIn K cd_l_take "_law_take" = true) (k_l_take : PySem.W.keepIn K (.ref f_l_take) = true)
    {f_l_copy_row : Addr} {oc_l_copy_row kV_l_copy_row dc_l_copy_row pm_l_copy_row cd_l_copy_row ct_l_copy_row : Value} {od_l_copy_row an_l_copy_row : Option Addr} {sl_l_copy_row : Array (Option Value)}
    (a_l_copy_row : PySem.W.nsIn K mainGlobals "_law_copy_row" = some (some (.ref f_l_copy_row))) (l_l_copy_row : K.lookup f_l_copy_row = some ⟨oc_l_copy_row,od_l_copy_row,.func (PySem.W.fnOf "_law_copy_row" "_law_copy_row" (defArgs s_l_copy_row) (defBody s_l_copy_row) (defScope s_l_copy_row) .none kV_l_copy_row dc_l_copy_row pm_l_copy_row an_l_copy_row cd_l_copy_row ct_l_copy_row),sl_l_copy_row⟩) (c_l_copy_row : PySem.W.codeIn K cd_l_copy_row "_law_copy_row" = true) (k_l_copy_row : PySem.W.keepIn K (.ref f_l_copy_row) = true)
    {f_l_sheet : Addr} {oc_l_sheet kV_l_sheet dc_l_sheet pm_l_sheet cd_l_sheet ct_l_sheet : Value} {od_l_sheet an_l_sheet : Option Addr} {sl_l_sheet : Array (Option Value)}
    (a_l_sheet : PySem.W.nsIn K mainGlobals "_law_sheet" = some (some (.ref f_l_sheet))) (l_l_sheet : K.lookup f_l_sheet = some ⟨oc_l_sheet,od_l_sheet,.func (PySem.W.fnOf "_law_sheet" "_law_sheet" (defArgs s_l_sheet) (defBody s_l_sheet) (defScope s_l_sheet) .none kV_l_sheet dc_l_sheet pm_l_sheet an_l_sheet cd_l_sheet ct_l_sheet),sl_l_sheet⟩) (c_l_sheet : PySem.W.codeIn K cd_l_sheet "_law_sheet" = true) (k_l_sheet : PySem.W.keepIn K (.ref f_l_sheet) = true)
    {f_l_drawn : Addr} {oc_l_drawn kV_l_drawn dc_l_drawn pm_l_drawn cd_l_drawn ct_l_drawn : Value} {od_l_drawn an_l_drawn : Option Addr} {sl_l_drawn : Array (Option Value)}
    (a_l_drawn : PySem.W.nsIn K mainGlobals "_law_drawn" = some (some (.ref f_l_drawn))) (l_l_drawn : K.lookup f_l_drawn = some ⟨oc_l_drawn,od_l_drawn,.func (PySem.W.fnOf "_law_drawn" "_law_drawn" (defArgs s_l_drawn) (defBody s_l_drawn) (defScope s_l_drawn) .none kV_l_drawn dc_l_drawn pm_l_drawn an_l_drawn cd_l_drawn ct_l_drawn),sl_l_drawn⟩) (c_l_drawn : PySem.W.codeIn K cd_l_drawn "_law_drawn" = true) (k_l_drawn : PySem.W.keepIn K (.ref f_l_drawn) = true)
    {f_Machine_rise : Addr} {oc_Machine_rise kV_Machine_rise dc_Machine_rise pm_Machine_rise cd_Machine_rise ct_Machine_rise : Value} {od_Machine_rise an_Machine_rise : Option Addr} {sl_Machine_rise : Array (Option Value)}
    (a_Machine_rise : PySem.W.findIn K (.ref C_Machine) "rise" = some (some (.ref f_Machine_rise))) (i_Machine_rise : PySem.W.isFn K (.ref f_Machine_rise) = true) (l_Machine_rise : K.lookup f_Machine_rise = some ⟨oc_Machine_rise,od_Machine_rise,.func (PySem.W.fnOf "rise" "Machine.rise" (defArgs s_Machine_rise) (defBody s_Machine_rise) (defScope s_Machine_rise) .none kV_Machine_rise dc_Machine_rise pm_Machine_rise an_Machine_rise cd_Machine_rise ct_Machine_rise),sl_Machine_rise⟩) (c_Machine_rise : PySem.W.codeIn K cd_Machine_rise "Machine.rise" = true) (k_Machine_rise : PySem.W.keepIn K (.ref f_Machine_rise) = true)
    {f_Machine_fall : Addr} {oc_Machine_fall kV_Machine_fall dc_Machine_fall pm_Machine_fall cd_Machine_fall ct_Machine_fall : Value} {od_Machine_fall an_Machine_fall : Option Addr} {sl_Machine_fall : Array (Option Value)}
    (a_Machine_fall : PySem.W.findIn K (.ref C_Machine) "fall" = some (some (.ref f_Machine_fall))) (i_Machine_fall : PySem.W.isFn K (.ref f_Machine_fall) = true) (l_Machine_fall : K.lookup f_Machine_fall = some ⟨oc_Machine_fall,od_Machine_fall,.func (PySem.W.fnOf "fall" "Machine.fall" (defArgs s_Machine_fall) (defBody s_Machine_fall) (defScope s_Machine_fall) .none kV_Machine_fall dc_Machine_fall pm_Machine_fall an_Machine_fall cd_Machine_fall ct_Machine_fall),sl_Machine_fall⟩) (c_Machine_fall : PySem.W.codeIn K cd_Machine_fall "Machine.fall" = true) (k_Machine_fall : PySem.W.keepIn K (.ref f_Machine_fall) = true)
    {f_is_answering : Addr} {oc_is_answering kV_is_answering dc_is_answering pm_is_answering cd_is_answering ct_is_answering : Value} {od_is_answering an_is_answering : Option Addr} {sl_is_answering : Array (Option Value)}
    (a_is_answering : PySem.W.nsIn K mainGlobals "is_answering" = some (some (.ref f_is_answering))) (l_is_answering : K.lookup f_is_answering = some ⟨oc_is_answering,od_is_answering,.func (PySem.W.fnOf "is_answering" "is_answering" (defArgs s_is_answering) (defBody s_is_answering) (defScope s_is_answering) .none kV_is_answering dc_is_answering pm_is_answering an_is_answering cd_is_answering ct_is_answering),sl_is_answering⟩) (c_is_answering : PySem.W.codeIn K cd_is_answering "is_answering" = true) (k_is_answering : PySem.W.keepIn K (.ref f_is_answering) = true)
    {f_Machine_answers : Addr} {oc_Machine_answers kV_Machine_answers dc_Machine_answers pm_Machine_answers cd_Machine_answers ct_Machine_answers : Value} {od_Machine_answers an_Machine_answers : Option Addr} {sl_Machine_answers : Array (Option Value)}
    (a_Machine_answers : PySem.W.findIn K (.ref C_Machine) "answers" = some (some (.ref f_Machine_answers))) (i_Machine_answers : PySem.W.isFn K (.ref f_Machine_answers) = true) (l_Machine_answers : K.lookup f_Machine_answers = some ⟨oc_Machine_answers,od_Machine_answers,.func (PySem.W.fnOf "answers" "Machine.answers" (defArgs s_Machine_answers) (defBody s_Machine_answers) (defScope s_Machine_answers) .none kV_Machine_answers dc_Machine_answers pm_Machine_answers an_Machine_answers cd_Machine_answers ct_Machine_answers),sl_Machine_answers⟩) (c_Machine_answers : PySem.W.codeIn K cd_Machine_answers "Machine.answers" = true) (k_Machine_answers : PySem.W.keepIn K (.ref f_Machine_answers) = true)
    {f_failed : Addr} {oc_failed kV_failed dc_failed pm_failed cd_failed ct_failed : Value} {od_failed an_failed : Option Addr} {sl_failed : Array (Option Value)}
    (a_failed : PySem.W.nsIn K mainGlobals "failed" = some (some (.ref f_failed))) (l_failed : K.lookup f_failed = some ⟨oc_failed,od_failed,.func (PySem.W.fnOf "failed" "failed" (defArgs s_failed) (defBody s_failed) (defScope s_failed) .none kV_failed dc_failed pm_failed an_failed cd_failed ct_failed),sl_failed⟩) (c_failed : PySem.W.codeIn K cd_failed "failed" = true) (k_failed : PySem.W.keepIn K (.ref f_failed) = true)
    {f_Machine_fail : Addr} {oc_Machine_fail kV_Machine_fail dc_Machine_fail pm_Machine_fail cd_Machine_fail ct_Machine_fail : Value} {od_Machine_fail an_Machine_fail : Option Addr} {sl_Machine_fail : Array (Option Value)}
    (a_Machine_fail : PySem.W.findIn K (.ref C_Machine) "fail" = some (some (.ref f_Machine_fail))) (i_Machine_fail : PySem.W.isFn K (.ref f_Machine_fail) = true) (l_Machine_fail : K.lookup f_Machine_fail = some ⟨oc_Machine_fail,od_Machine_fail,.func (PySem.W.fnOf "fail" "Machine.fail" (defArgs s_Machine_fail) (defBody s_Machine_fail) (defScope s_Machine_fail) .none kV_Machine_fail dc_Machine_fail pm_Machine_fail an_Machine_fail cd_Machine_fail ct_Machine_fail),sl_Machine_fail⟩) (c_Machine_fail : PySem.W.codeIn K cd_Machine_fail "Machine.fail" = true) (k_Machine_fail : PySem.W.keepIn K (.ref f_Machine_fail) = true)
    {f_new_copy : Addr} {oc_new_copy kV_new_copy dc_new_copy pm_new_copy cd_new_copy ct_new_copy : Value} {od_new_copy an_new_copy : Option Addr} {sl_new_copy : Array (Option Value)}
    (a_new_copy : PySem.W.nsIn K mainGlobals "new_copy" = some (some (.ref f_new_copy))) (l_new_copy : K.lookup f_new_copy = some ⟨oc_new_copy,od_new_copy,.func (PySem.W.fnOf "new_copy" "new_copy" (defArgs s_new_copy) (defBody s_new_copy) (defScope s_new_copy) .none kV_new_copy dc_new_copy pm_new_copy an_new_copy cd_new_copy ct_new_copy),sl_new_copy⟩) (c_new_copy : PySem.W.codeIn K cd_new_copy "new_copy" = true) (k_new_copy : PySem.W.keepIn K (.ref f_new_copy) = true)
    {f_Machine_take : Addr} {oc_Machine_take kV_Machine_take dc_Machine_take pm_Machine_take cd_Machine_take ct_Machine_take : Value} {od_Machine_take an_Machine_take : Option Addr} {sl_Machine_take : Array (Option Value)}
    (a_Machine_take : PySem.W.findIn K (.ref C_Machine) "take" = some (some (.ref f_Machine_take))) (i_Machine_take : PySem.W.isFn K (.ref f_Machine_take) = true) (l_Machine_take : K.lookup f_Machine_take = some ⟨oc_Machine_take,od_Machine_take,.func (PySem.W.fnOf "take" "Machine.take" (defArgs s_Machine_take) (defBody s_Machine_take) (defScope s_Machine_take) .none kV_Machine_take dc_Machine_take pm_Machine_take an_Machine_take cd_Machine_take ct_Machine_take),sl_Machine_take⟩) (c_Machine_take : PySem.W.codeIn K cd_Machine_take "Machine.take" = true) (k_Machine_take : PySem.W.keepIn K (.ref f_Machine_take) = true)
    {f_gone_on : Addr} {oc_gone_on kV_gone_on dc_gone_on pm_gone_on cd_gone_on ct_gone_on : Value} {od_gone_on an_gone_on : Option Addr} {sl_gone_on : Array (Option Value)}
    (a_gone_on : PySem.W.nsIn K mainGlobals "gone_on" = some (some (.ref f_gone_on))) (l_gone_on : K.lookup f_gone_on = some ⟨oc_gone_on,od_gone_on,.func (PySem.W.fnOf "gone_on" "gone_on" (defArgs s_gone_on) (defBody s_gone_on) (defScope s_gone_on) .none kV_gone_on dc_gone_on pm_gone_on an_gone_on cd_gone_on ct_gone_on),sl_gone_on⟩) (c_gone_on : PySem.W.codeIn K cd_gone_on "gone_on" = true) (k_gone_on : PySem.W.keepIn K (.ref f_gone_on) = true)
    {f_Machine_go_on : Addr} {oc_Machine_go_on kV_Machine_go_on dc_Machine_go_on pm_Machine_go_on cd_Machine_go_on ct_Machine_go_on : Value} {od_Machine_go_on an_Machine_go_on : Option Addr} {sl_Machine_go_on : Array (Option Value)}
    (a_Machine_go_on : PySem.W.findIn K (.ref C_Machine) "go_on" = some (some (.ref f_Machine_go_on))) (i_Machine_go_on : PySem.W.isFn K (.ref f_Machine_go_on) = true) (l_Machine_go_on : K.lookup f_Machine_go_on = some ⟨oc_Machine_go_on,od_Machine_go_on,.func (PySem.W.fnOf "go_on" "Machine.go_on" (defArgs s_Machine_go_on) (defBody s_Machine_go_on) (defScope s_Machine_go_on) .none kV_Machine_go_on dc_Machine_go_on pm_Machine_go_on an_Machine_go_on cd_Machine_go_on ct_Machine_go_on),sl_Machine_go_on⟩) (c_Machine_go_on : PySem.W.codeIn K cd_Machine_go_on "Machine.go_on" = true) (k_Machine_go_on : PySem.W.keepIn K (.ref f_Machine_go_on) = true)
    {f_l_done : Addr} {oc_l_done kV_l_done dc_l_done pm_l_done cd_l_done ct_l_done : Value} {od_l_done an_l_done : Option Addr} {sl_l_done : Array (Option Value)}
    (a_l_done : PySem.W.nsIn K mainGlobals "_law_done" = some (some (.ref f_l_done))) (l_l_done : K.lookup f_l_done = some ⟨oc_l_done,od_l_done,.func (PySem.W.fnOf "_law_done" "_law_done" (defArgs s_l_done) (defBody s_l_done) (defScope s_l_done) .none kV_l_done dc_l_done pm_l_done an_l_done cd_l_done ct_l_done),sl_l_done⟩) (c_l_done : PySem.W.codeIn K cd_l_done "_law_done" = true) (k_l_done : PySem.W.keepIn K (.ref f_l_done) = true)
    {f_Machine_copied : Addr} {oc_Machine_copied kV_Machine_copied dc_Machine_copied pm_Machine_copied cd_Machine_copied ct_Machine_copied : Value} {od_Machine_copied an_Machine_copied : Option Addr} {sl_Machine_copied : Array (Option Value)}
    (a_Machine_copied : PySem.W.findIn K (.ref C_Machine) "copied" = some (some (.ref f_Machine_copied))) (i_Machine_copied : PySem.W.isFn K (.ref f_Machine_copied) = true) (l_Machine_copied : K.lookup f_Machine_copied = some ⟨oc_Machine_copied,od_Machine_copied,.func (PySem.W.fnOf "copied" "Machine.copied" (defArgs s_Machine_copied) (defBody s_Machine_copied) (defScope s_Machine_copied) .none kV_Machine_copied dc_Machine_copied pm_Machine_copied an_Machine_copied cd_Machine_copied ct_Machine_copied),sl_Machine_copied⟩) (c_Machine_copied : PySem.W.codeIn K cd_Machine_copied "Machine.copied" = true) (k_Machine_copied : PySem.W.keepIn K (.ref f_Machine_copied) = true)
    {f_Machine_lease_at : Addr} {oc_Machine_lease_at kV_Machine_lease_at dc_Machine_lease_at pm_Machine_lease_at cd_Machine_lease_at ct_Machine_lease_at : Value} {od_Machine_lease_at an_Machine_lease_at : Option Addr} {sl_Machine_lease_at : Array (Option Value)}
    (a_Machine_lease_at : PySem.W.findIn K (.ref C_Machine) "lease_at" = some (some (.ref f_Machine_lease_at))) (i_Machine_lease_at : PySem.W.isFn K (.ref f_Machine_lease_at) = true) (l_Machine_lease_at : K.lookup f_Machine_lease_at = some ⟨oc_Machine_lease_at,od_Machine_lease_at,.func (PySem.W.fnOf "lease_at" "Machine.lease_at" (defArgs s_Machine_lease_at) (defBody s_Machine_lease_at) (defScope s_Machine_lease_at) .none kV_Machine_lease_at dc_Machine_lease_at pm_Machine_lease_at an_Machine_lease_at cd_Machine_lease_at ct_Machine_lease_at),sl_Machine_lease_at⟩) (c_Machine_lease_at : PySem.W.codeIn K cd_Machine_lease_at "Machine.lease_at" = true) (k_Machine_lease_at : PySem.W.keepIn K (.ref f_Machine_lease_at) = true)
    {f_Machine_called : Addr} {oc_Machine_called kV_Machine_called dc_Machine_called pm_Machine_called cd_Machine_called ct_Machine_called : Value} {od_Machine_called an_Machine_called : Option Addr} {sl_Machine_called : Array (Option Value)}
    (a_Machine_called : PySem.W.findIn K (.ref C_Machine) "called" = some (some (.ref f_Machine_called))) (i_Machine_called : PySem.W.isFn K (.ref f_Machine_called) = true) (l_Machine_called : K.lookup f_Machine_called = some ⟨oc_Machine_called,od_Machine_called,.func (PySem.W.fnOf "called" "Machine.called" (defArgs s_Machine_called) (defBody s_Machine_called) (defScope s_Machine_called) .none kV_Machine_called dc_Machine_called pm_Machine_called an_Machine_called cd_Machine_called ct_Machine_called),sl_Machine_called⟩) (c_Machine_called : PySem.W.codeIn K cd_Machine_called "Machine.called" = true) (k_Machine_called : PySem.W.keepIn K (.ref f_Machine_called) = true)
    {f_Machine_berths : Addr} {oc_Machine_berths kV_Machine_berths dc_Machine_berths pm_Machine_berths cd_Machine_berths ct_Machine_berths : Value} {od_Machine_berths an_Machine_berths : Option Addr} {sl_Machine_berths : Array (Option Value)}
    (a_Machine_berths : PySem.W.findIn K (.ref C_Machine) "berths" = some (some (.ref f_Machine_berths))) (i_Machine_berths : PySem.W.isFn K (.ref f_Machine_berths) = true) (l_Machine_berths : K.lookup f_Machine_berths = some ⟨oc_Machine_berths,od_Machine_berths,.func (PySem.W.fnOf "berths" "Machine.berths" (defArgs s_Machine_berths) (defBody s_Machine_berths) (defScope s_Machine_berths) .none kV_Machine_berths dc_Machine_berths pm_Machine_berths an_Machine_berths cd_Machine_berths ct_Machine_berths),sl_Machine_berths⟩) (c_Machine_berths : PySem.W.codeIn K cd_Machine_berths "Machine.berths" = true) (k_Machine_berths : PySem.W.keepIn K (.ref f_Machine_berths) = true)
    {f_Machine_life : Addr} {oc_Machine_life kV_Machine_life dc_Machine_life pm_Machine_life cd_Machine_life ct_Machine_life : Value} {od_Machine_life an_Machine_life : Option Addr} {sl_Machine_life : Array (Option Value)}
    (a_Machine_life : PySem.W.findIn K (.ref C_Machine) "life" = some (some (.ref f_Machine_life))) (i_Machine_life : PySem.W.isFn K (.ref f_Machine_life) = true) (l_Machine_life : K.lookup f_Machine_life = some ⟨oc_Machine_life,od_Machine_life,.func (PySem.W.fnOf "life" "Machine.life" (defArgs s_Machine_life) (defBody s_Machine_life) (defScope s_Machine_life) .none kV_Machine_life dc_Machine_life pm_Machine_life an_Machine_life cd_Machine_life ct_Machine_life),sl_Machine_life⟩) (c_Machine_life : PySem.W.codeIn K cd_Machine_life "Machine.life" = true) (k_Machine_life : PySem.W.keepIn K (.ref f_Machine_life) = true)
    {f_Machine_stands : Addr} {oc_Machine_stands kV_Machine_stands dc_Machine_stands pm_Machine_stands cd_Machine_stands ct_Machine_stands : Value} {od_Machine_stands an_Machine_stands : Option Addr} {sl_Machine_stands : Array (Option Value)}
    (a_Machine_stands : PySem.W.findIn K (.ref C_Machine) "stands" = some (some (.ref f_Machine_stands))) (i_Machine_stands : PySem.W.isFn K (.ref f_Machine_stands) = true) (l_Machine_stands : K.lookup f_Machine_stands = some ⟨oc_Machine_stands,od_Machine_stands,.func (PySem.W.fnOf "stands" "Machine.stands" (defArgs s_Machine_stands) (defBody s_Machine_stands) (defScope s_Machine_stands) .none kV_Machine_stands dc_Machine_stands pm_Machine_stands an_Machine_stands cd_Machine_stands ct_Machine_stands),sl_Machine_stands⟩) (c_Machine_stands : PySem.W.codeIn K cd_Machine_stands "Machine.stands" = true) (k_Machine_stands : PySem.W.keepIn K (.ref f_Machine_stands) = true)
    {f_told_copy : Addr} {oc_told_copy kV_told_copy dc_told_copy pm_told_copy cd_told_copy ct_told_copy : Value} {od_told_copy an_told_copy : Option Addr} {sl_told_copy : Array (Option Value)}
    (a_told_copy : PySem.W.nsIn K mainGlobals "told_copy" = some (some (.ref f_told_copy))) (l_told_copy : K.lookup f_told_copy = some ⟨oc_told_copy,od_told_copy,.func (PySem.W.fnOf "told_copy" "told_copy" (defArgs s_told_copy) (defBody s_told_copy) (defScope s_told_copy) .none kV_told_copy dc_told_copy pm_told_copy an_told_copy cd_told_copy ct_told_copy),sl_told_copy⟩) (c_told_copy : PySem.W.codeIn K cd_told_copy "told_copy" = true) (k_told_copy : PySem.W.keepIn K (.ref f_told_copy) = true)
    {f_Machine_lying : Addr} {oc_Machine_lying kV_Machine_lying dc_Machine_lying pm_Machine_lying cd_Machine_lying ct_Machine_lying : Value} {od_Machine_lying an_Machine_lying : Option Addr} {sl_Machine_lying : Array (Option Value)}
    (a_Machine_lying : PySem.W.findIn K (.ref C_Machine) "lying" = some (some (.ref f_Machine_lying))) (i_Machine_lying : PySem.W.isFn K (.ref f_Machine_lying) = true) (l_Machine_lying : K.lookup f_Machine_lying = some ⟨oc_Machine_lying,od_Machine_lying,.func (PySem.W.fnOf "lying" "Machine.lying" (defArgs s_Machine_lying) (defBody s_Machine_lying) (defScope s_Machine_lying) .none kV_Machine_lying dc_Machine_lying pm_Machine_lying an_Machine_lying cd_Machine_lying ct_Machine_lying),sl_Machine_lying⟩) (c_Machine_lying : PySem.W.codeIn K cd_Machine_lying "Machine.lying" = true) (k_Machine_lying : PySem.W.keepIn K (.ref f_Machine_lying) = true)
    {f_Machine_leases : Addr} {oc_Machine_leases kV_Machine_leases dc_Machine_leases pm_Machine_leases cd_Machine_leases ct_Machine_leases : Value} {od_Machine_leases an_Machine_leases : Option Addr} {sl_Machine_leases : Array (Option Value)}
    (a_Machine_leases : PySem.W.findIn K (.ref C_Machine) "leases" = some (some (.ref f_Machine_leases))) (i_Machine_leases : PySem.W.isFn K (.ref f_Machine_leases) = true) (l_Machine_leases : K.lookup f_Machine_leases = some ⟨oc_Machine_leases,od_Machine_leases,.func (PySem.W.fnOf "leases" "Machine.leases" (defArgs s_Machine_leases) (defBody s_Machine_leases) (defScope s_Machine_leases) .none kV_Machine_leases dc_Machine_leases pm_Machine_leases an_Machine_leases cd_Machine_leases ct_Machine_leases),sl_Machine_leases⟩) (c_Machine_leases : PySem.W.codeIn K cd_Machine_leases "Machine.leases" = true) (k_Machine_leases : PySem.W.keepIn K (.ref f_Machine_leases) = true)
    {f_Machine_beat : Addr} {oc_Machine_beat kV_Machine_beat dc_Machine_beat pm_Machine_beat cd_Machine_beat ct_Machine_beat : Value} {od_Machine_beat an_Machine_beat : Option Addr} {sl_Machine_beat : Array (Option Value)}
    (a_Machine_beat : PySem.W.findIn K (.ref C_Machine) "beat" = some (some (.ref f_Machine_beat))) (i_Machine_beat : PySem.W.isFn K (.ref f_Machine_beat) = true) (l_Machine_beat : K.lookup f_Machine_beat = some ⟨oc_Machine_beat,od_Machine_beat,.func (PySem.W.fnOf "beat" "Machine.beat" (defArgs s_Machine_beat) (defBody s_Machine_beat) (defScope s_Machine_beat) .none kV_Machine_beat dc_Machine_beat pm_Machine_beat an_Machine_beat cd_Machine_beat ct_Machine_beat),sl_Machine_beat⟩) (c_Machine_beat : PySem.W.codeIn K cd_Machine_beat "Machine.beat" = true) (k_Machine_beat : PySem.W.keepIn K (.ref f_Machine_beat) = true)
    {f_l_seen : Addr} {oc_l_seen kV_l_seen dc_l_seen pm_l_seen cd_l_seen ct_l_seen : Value} {od_l_seen an_l_seen : Option Addr} {sl_l_seen : Array (Option Value)}
    (a_l_seen : PySem.W.nsIn K mainGlobals "_law_seen" = some (some (.ref f_l_seen))) (l_l_seen : K.lookup f_l_seen = some ⟨oc_l_seen,od_l_seen,.func (PySem.W.fnOf "_law_seen" "_law_seen" (defArgs s_l_seen) (defBody s_l_seen) (defScope s_l_seen) .none kV_l_seen dc_l_seen pm_l_seen an_l_seen cd_l_seen ct_l_seen),sl_l_seen⟩) (c_l_seen : PySem.W.codeIn K cd_l_seen "_law_seen" = true) (k_l_seen : PySem.W.keepIn K (.ref f_l_seen) = true)
    {f_l_right : Addr} {oc_l_right kV_l_right dc_l_right pm_l_right cd_l_right ct_l_right : Value} {od_l_right an_l_right : Option Addr} {sl_l_right : Array (Option Value)}
    (a_l_right : PySem.W.nsIn K mainGlobals "_law_right" = some (some (.ref f_l_right))) (l_l_right : K.lookup f_l_right = some ⟨oc_l_right,od_l_right,.func (PySem.W.fnOf "_law_right" "_law_right" (defArgs s_l_right) (defBody s_l_right) (defScope s_l_right) .none kV_l_right dc_l_right pm_l_right an_l_right cd_l_right ct_l_right),sl_l_right⟩) (c_l_right : PySem.W.codeIn K cd_l_right "_law_right" = true) (k_l_right : PySem.W.keepIn K (.ref f_l_right) = true)
    {f_law : Addr} {oc_law kV_law dc_law pm_law cd_law ct_law : Value} {od_law an_law : Option Addr} {sl_law : Array (Option Value)}
    (a_law : PySem.W.nsIn K mainGlobals "law" = some (some (.ref f_law))) (l_law : K.lookup f_law = some ⟨oc_law,od_law,.func (PySem.W.fnOf "law" "law" (defArgs s_law) (defBody s_law) (defScope s_law) .none kV_law dc_law pm_law an_law cd_law ct_law),sl_law⟩) (c_law : PySem.W.codeIn K cd_law "law" = true) (k_law : PySem.W.keepIn K (.ref f_law) = true)
    (aC_Machine : PySem.W.nsIn K mainGlobals "Machine" = some (some (.ref C_Machine))) (pg_Machine : PySem.W.plainGet K C_Machine Str.empty = true) (hd_Machine : PySem.W.hasDictIn K C_Machine = true) (po_Machine : PySem.W.plainOver K C_Machine = true) (sa_Machine : PySem.W.findIn K (.ref C_Machine) "__setattr__" = some (some (.builtin "object.__setattr__"))) (mk_Machine : PySem.W.makesIn K C_Machine = true) (kc_Machine : PySem.W.keepIn K (.ref C_Machine) = true)
    (n_Machine_berth_count : PySem.W.findIn K (.ref C_Machine) "berth_count" = some none)
    (n_Machine_known_leases : PySem.W.findIn K (.ref C_Machine) "known_leases" = some none)
    (n_Machine_laid : PySem.W.findIn K (.ref C_Machine) "laid" = some none)
    (n_Machine_lives : PySem.W.findIn K (.ref C_Machine) "lives" = some none)
    (n_Machine_name : PySem.W.findIn K (.ref C_Machine) "name" = some none)
    (n_Machine_sheet_turn : PySem.W.findIn K (.ref C_Machine) "sheet_turn" = some none)
    (n_Machine_standing : PySem.W.findIn K (.ref C_Machine) "standing" = some none)
    (b_abs : PySem.W.nsIn K mainGlobals "abs" = some none)
    (b_dict : PySem.W.nsIn K mainGlobals "dict" = some none)
    (b_len : PySem.W.nsIn K mainGlobals "len" = some none)
    (b_list : PySem.W.nsIn K mainGlobals "list" = some none)
    (b_max : PySem.W.nsIn K mainGlobals "max" = some none)
    (b_range : PySem.W.nsIn K mainGlobals "range" = some none)
    (b_repr : PySem.W.nsIn K mainGlobals "repr" = some none)
    (b_sorted : PySem.W.nsIn K mainGlobals "sorted" = some none)
    (b_tuple : PySem.W.nsIn K mainGlobals "tuple" = some none) :
    ∃ fd : FuncData,(∀ (s : Shared) (v : Value),BindsTo s fd ⟨[v],[]⟩ [("_law_script",v)]) /\ ∀ base : Heap,K.In base -> base.Ns mainGlobals mg -> FnOk l.prog w K mg base CX0 5 fa fd ["_law_script"] (upSp K sp_law) := by
  have e := hfa.symm.trans (PySem.W.mg_of X G a_law)
  cases e
  have E : Env K mg := ⟨⟨pg_Machine,hd_Machine,po_Machine,sa_Machine⟩,PySem.W.mg_of X G aC_Machine,n_Machine_berth_count,n_Machine_known_leases,n_Machine_laid,n_Machine_lives,n_Machine_name,n_Machine_sheet_turn,n_Machine_standing,PySem.W.mg_none_of X G b_abs,PySem.W.mg_none_of X G b_dict,PySem.W.mg_none_of X G b_len,PySem.W.mg_none_of X G b_list,PySem.W.mg_none_of X G b_max,PySem.W.mg_none_of X G b_range,PySem.W.mg_none_of X G b_repr,PySem.W.mg_none_of X G b_sorted,PySem.W.mg_none_of X G b_tuple⟩
  have G_l_bag : Fn K mg "_law_bag" s_l_bag ["_law_script"] _ _ := fn_mk X G a_l_bag l_l_bag c_l_bag k_l_bag (λ _ _ _ _ _ _ us hl => by obtain ⟨_,rfl⟩ := D.len_1 hl; rfl)
  have G_Machine_init : Mi K C_Machine "Machine.__init__" s_Machine_init ["self", "name", "berths"] _ _ := mi_mk a_Machine_init i_Machine_init l_Machine_init c_Machine_init k_Machine_init mk_Machine kc_Machine (λ _ _ _ _ _ _ us hl => by obtain ⟨_,_,_,rfl⟩ := D.len_3 hl; rfl)
  have G_l_take : Fn K mg "_law_take" s_l_take ["_law_bag_here", "_law_many"] _ _ := fn_mk X G a_l_take l_l_take c_l_take k_l_take (λ _ _ _ _ _ _ us hl => by obtain ⟨_,_,rfl⟩ := D.len_2 hl; rfl)
  have G_l_copy_row : Fn K mg "_law_copy_row" s_l_copy_row ["_law_bag_here", "_law_number"] _ _ := fn_mk X G a_l_copy_row l_l_copy_row c_l_copy_row k_l_copy_row (λ _ _ _ _ _ _ us hl => by obtain ⟨_,_,rfl⟩ := D.len_2 hl; rfl)
  have G_l_sheet : Fn K mg "_law_sheet" s_l_sheet ["_law_bag_here", "_law_life", "_law_turn", "_law_most"] _ _ := fn_mk X G a_l_sheet l_l_sheet c_l_sheet k_l_sheet (λ _ _ _ _ _ _ us hl => by obtain ⟨_,_,_,_,rfl⟩ := D.len_4 hl; rfl)
  have G_l_drawn : Fn K mg "_law_drawn" s_l_drawn ["_law_bag_here", "_law_turn", "_law_life"] _ _ := fn_mk X G a_l_drawn l_l_drawn c_l_drawn k_l_drawn (λ _ _ _ _ _ _ us hl => by obtain ⟨_,_,_,rfl⟩ := D.len_3 hl; rfl)
  have G_Machine_rise : Mf K C_Machine "rise" "Machine.rise" s_Machine_rise ["self"] _ _ := mf_mk a_Machine_rise i_Machine_rise l_Machine_rise c_Machine_rise k_Machine_rise (λ _ _ _ _ _ _ us hl => by obtain ⟨_,rfl⟩ := D.len_1 hl; rfl)
  have G_Machine_fall : Mf K C_Machine "fall" "Machine.fall" s_Machine_fall ["self"] _ _ := mf_mk a_Machine_fall i_Machine_fall l_Machine_fall c_Machine_fall k_Machine_fall (λ _ _ _ _ _ _ us hl => by obtain ⟨_,rfl⟩ := D.len_1 hl; rfl)
  have G_is_answering : Fn K mg "is_answering" s_is_answering ["copy"] _ _ := fn_mk X G a_is_answering l_is_answering c_is_answering k_is_answering (λ _ _ _ _ _ _ us hl => by obtain ⟨_,rfl⟩ := D.len_1 hl; rfl)
  have G_Machine_answers : Mf K C_Machine "answers" "Machine.answers" s_Machine_answers ["self", "number"] _ _ := mf_mk a_Machine_answers i_Machine_answers l_Machine_answers c_Machine_answers k_Machine_answers (λ _ _ _ _ _ _ us hl => by obtain ⟨_,_,rfl⟩ := D.len_2 hl; rfl)
  have G_failed : Fn K mg "failed" s_failed ["copy"] _ _ := fn_mk X G a_failed l_failed c_failed k_failed (λ _ _ _ _ _ _ us hl => by obtain ⟨_,rfl⟩ := D.len_1 hl; rfl)
  have G_Machine_fail : Mf K C_Machine "fail" "Machine.fail" s_Machine_fail ["self", "number"] _ _ := mf_mk a_Machine_fail i_Machine_fail l_Machine_fail c_Machine_fail k_Machine_fail (λ _ _ _ _ _ _ us hl => by obtain ⟨_,_,rfl⟩ := D.len_2 hl; rfl)
  have G_new_copy : Fn K mg "new_copy" s_new_copy ["row"] _ _ := fn_mk X G a_new_copy l_new_copy c_new_copy k_new_copy (λ _ _ _ _ _ _ us hl => by obtain ⟨_,rfl⟩ := D.len_1 hl; rfl)
  have G_Machine_take : Mf K C_Machine "take" "Machine.take" s_Machine_take ["self", "sheet"] _ _ := mf_mk a_Machine_take i_Machine_take l_Machine_take c_Machine_take k_Machine_take (λ _ _ _ _ _ _ us hl => by obtain ⟨_,_,rfl⟩ := D.len_2 hl; rfl)
  have G_gone_on : Fn K mg "gone_on" s_gone_on ["copy"] _ _ := fn_mk X G a_gone_on l_gone_on c_gone_on k_gone_on (λ _ _ _ _ _ _ us hl => by obtain ⟨_,rfl⟩ := D.len_1 hl; rfl)
  have G_Machine_go_on : Mf K C_Machine "go_on" "Machine.go_on" s_Machine_go_on ["self"] _ _ := mf_mk a_Machine_go_on i_Machine_go_on l_Machine_go_on c_Machine_go_on k_Machine_go_on (λ _ _ _ _ _ _ us hl => by obtain ⟨_,rfl⟩ := D.len_1 hl; rfl)
  have G_l_done : Fn K mg "_law_done" s_l_done ["_law_machine", "_law_way", "_law_thing"] _ _ := fn_mk X G a_l_done l_l_done c_l_done k_l_done (λ _ _ _ _ _ _ us hl => by obtain ⟨_,_,_,rfl⟩ := D.len_3 hl; rfl)
  have G_Machine_copied : Mf K C_Machine "copied" "Machine.copied" s_Machine_copied ["self"] _ _ := mf_mk a_Machine_copied i_Machine_copied l_Machine_copied c_Machine_copied k_Machine_copied (λ _ _ _ _ _ _ us hl => by obtain ⟨_,rfl⟩ := D.len_1 hl; rfl)
  have G_Machine_lease_at : Mf K C_Machine "lease_at" "Machine.lease_at" s_Machine_lease_at ["self", "store", "turn"] _ _ := mf_mk a_Machine_lease_at i_Machine_lease_at l_Machine_lease_at c_Machine_lease_at k_Machine_lease_at (λ _ _ _ _ _ _ us hl => by obtain ⟨_,_,_,rfl⟩ := D.len_3 hl; rfl)
  have G_Machine_called : Mf K C_Machine "called" "Machine.called" s_Machine_called ["self"] _ _ := mf_mk a_Machine_called i_Machine_called l_Machine_called c_Machine_called k_Machine_called (λ _ _ _ _ _ _ us hl => by obtain ⟨_,rfl⟩ := D.len_1 hl; rfl)
  have G_Machine_berths : Mf K C_Machine "berths" "Machine.berths" s_Machine_berths ["self"] _ _ := mf_mk a_Machine_berths i_Machine_berths l_Machine_berths c_Machine_berths k_Machine_berths (λ _ _ _ _ _ _ us hl => by obtain ⟨_,rfl⟩ := D.len_1 hl; rfl)
  have G_Machine_life : Mf K C_Machine "life" "Machine.life" s_Machine_life ["self"] _ _ := mf_mk a_Machine_life i_Machine_life l_Machine_life c_Machine_life k_Machine_life (λ _ _ _ _ _ _ us hl => by obtain ⟨_,rfl⟩ := D.len_1 hl; rfl)
  have G_Machine_stands : Mf K C_Machine "stands" "Machine.stands" s_Machine_stands ["self"] _ _ := mf_mk a_Machine_stands i_Machine_stands l_Machine_stands c_Machine_stands k_Machine_stands (λ _ _ _ _ _ _ us hl => by obtain ⟨_,rfl⟩ := D.len_1 hl; rfl)
  have G_told_copy : Fn K mg "told_copy" s_told_copy ["copy"] _ _ := fn_mk X G a_told_copy l_told_copy c_told_copy k_told_copy (λ _ _ _ _ _ _ us hl => by obtain ⟨_,rfl⟩ := D.len_1 hl; rfl)
  have G_Machine_lying : Mf K C_Machine "lying" "Machine.lying" s_Machine_lying ["self"] _ _ := mf_mk a_Machine_lying i_Machine_lying l_Machine_lying c_Machine_lying k_Machine_lying (λ _ _ _ _ _ _ us hl => by obtain ⟨_,rfl⟩ := D.len_1 hl; rfl)
  have G_Machine_leases : Mf K C_Machine "leases" "Machine.leases" s_Machine_leases ["self"] _ _ := mf_mk a_Machine_leases i_Machine_leases l_Machine_leases c_Machine_leases k_Machine_leases (λ _ _ _ _ _ _ us hl => by obtain ⟨_,rfl⟩ := D.len_1 hl; rfl)
  have G_Machine_beat : Mf K C_Machine "beat" "Machine.beat" s_Machine_beat ["self", "turn"] _ _ := mf_mk a_Machine_beat i_Machine_beat l_Machine_beat c_Machine_beat k_Machine_beat (λ _ _ _ _ _ _ us hl => by obtain ⟨_,_,rfl⟩ := D.len_2 hl; rfl)
  have G_l_seen : Fn K mg "_law_seen" s_l_seen ["_law_machine", "_law_turn"] _ _ := fn_mk X G a_l_seen l_l_seen c_l_seen k_l_seen (λ _ _ _ _ _ _ us hl => by obtain ⟨_,_,rfl⟩ := D.len_2 hl; rfl)
  have G_l_right : Fn K mg "_law_right" s_l_right ["_law_machine", "_law_came", "_law_sheet_here"] _ _ := fn_mk X G a_l_right l_l_right c_l_right k_l_right (λ _ _ _ _ _ _ us hl => by obtain ⟨_,_,_,rfl⟩ := D.len_3 hl; rfl)
  have G_law : Fn K mg "law" s_law ["_law_script"] _ _ := fn_mk X G a_law l_law c_law k_law (λ _ _ _ _ _ _ us hl => by obtain ⟨_,rfl⟩ := D.len_1 hl; rfl)
  refine ⟨PySem.W.fnOf "law" "law" (defArgs s_law) (defBody s_law) (defScope s_law) .none kV_law dc_law pm_law an_law cd_law ct_law,λ s v => .of_eq rfl,λ base _ _ => ?_⟩
  have O_l_bag := ok_l_bag (P := l.prog) (w := w) (base := base) E G_l_bag
  have O_Machine_init := ok_Machine_init (P := l.prog) (w := w) (base := base) E G_Machine_init
  have O_l_take := ok_l_take (P := l.prog) (w := w) (base := base) E G_l_take
  have O_l_copy_row := ok_l_copy_row (P := l.prog) (w := w) (base := base) E G_l_copy_row G_l_take O_l_take
  have O_l_sheet := ok_l_sheet (P := l.prog) (w := w) (base := base) E G_l_sheet G_l_take O_l_take G_l_copy_row O_l_copy_row
  have O_l_drawn := ok_l_drawn (P := l.prog) (w := w) (base := base) E G_l_drawn G_l_take O_l_take G_l_sheet O_l_sheet
  have O_Machine_rise := ok_Machine_rise (P := l.prog) (w := w) (base := base) E G_Machine_rise
  have O_Machine_fall := ok_Machine_fall (P := l.prog) (w := w) (base := base) E G_Machine_fall
  have O_is_answering := ok_is_answering (P := l.prog) (w := w) (base := base) E G_is_answering
  have O_Machine_answers := ok_Machine_answers (P := l.prog) (w := w) (base := base) E G_Machine_answers G_is_answering O_is_answering
  have O_failed := ok_failed (P := l.prog) (w := w) (base := base) E G_failed
  have O_Machine_fail := ok_Machine_fail (P := l.prog) (w := w) (base := base) E G_Machine_fail G_Machine_answers O_Machine_answers G_failed O_failed
  have O_new_copy := ok_new_copy (P := l.prog) (w := w) (base := base) E G_new_copy
  have O_Machine_take := ok_Machine_take (P := l.prog) (w := w) (base := base) E G_Machine_take G_new_copy O_new_copy
  have O_gone_on := ok_gone_on (P := l.prog) (w := w) (base := base) E G_gone_on G_new_copy O_new_copy
  have O_Machine_go_on := ok_Machine_go_on (P := l.prog) (w := w) (base := base) E G_Machine_go_on G_gone_on O_gone_on
  have O_l_done := ok_l_done (P := l.prog) (w := w) (base := base) E G_l_done G_Machine_rise O_Machine_rise G_Machine_fall O_Machine_fall G_Machine_fail O_Machine_fail G_Machine_take O_Machine_take G_Machine_go_on O_Machine_go_on
  have O_Machine_copied := ok_Machine_copied (P := l.prog) (w := w) (base := base) E G_Machine_copied G_Machine_init O_Machine_init
  have O_Machine_lease_at := ok_Machine_lease_at (P := l.prog) (w := w) (base := base) E G_Machine_lease_at G_Machine_answers O_Machine_answers
  have O_Machine_called := ok_Machine_called (P := l.prog) (w := w) (base := base) E G_Machine_called
  have O_Machine_berths := ok_Machine_berths (P := l.prog) (w := w) (base := base) E G_Machine_berths
  have O_Machine_life := ok_Machine_life (P := l.prog) (w := w) (base := base) E G_Machine_life
  have O_Machine_stands := ok_Machine_stands (P := l.prog) (w := w) (base := base) E G_Machine_stands
  have O_told_copy := ok_told_copy (P := l.prog) (w := w) (base := base) E G_told_copy
  have O_Machine_lying := ok_Machine_lying (P := l.prog) (w := w) (base := base) E G_Machine_lying G_told_copy O_told_copy
  have O_Machine_leases := ok_Machine_leases (P := l.prog) (w := w) (base := base) E G_Machine_leases
  have O_Machine_beat := ok_Machine_beat (P := l.prog) (w := w) (base := base) E G_Machine_beat G_is_answering O_is_answering
  have O_l_seen := ok_l_seen (P := l.prog) (w := w) (base := base) E G_l_seen G_Machine_lease_at O_Machine_lease_at G_Machine_called O_Machine_called G_Machine_berths O_Machine_berths G_Machine_life O_Machine_life G_Machine_stands O_Machine_stands G_Machine_lying O_Machine_lying G_Machine_leases O_Machine_leases G_Machine_beat O_Machine_beat
  have O_l_right := ok_l_right (P := l.prog) (w := w) (base := base) E G_l_right G_Machine_lying O_Machine_lying G_Machine_leases O_Machine_leases G_Machine_berths O_Machine_berths
  have O_law := ok_law (P := l.prog) (w := w) (base := base) E G_law G_l_bag O_l_bag G_Machine_init O_Machine_init G_l_take O_l_take G_l_drawn O_l_drawn G_l_done O_l_done G_Machine_copied O_Machine_copied G_l_seen O_l_seen G_l_right O_l_right G_Machine_fail O_Machine_fail G_Machine_go_on O_Machine_go_on G_Machine_rise O_Machine_rise G_Machine_take O_Machine_take G_Machine_life O_Machine_life G_Machine_fall O_Machine_fall
  exact O_law
end
theorem walk {l : PySem.W.OpenLaw} {q : Program} {loose : List Str} {XP : (Str -> Option Value) -> Heap -> Prop} {YP : World -> Heap -> Prop} {d : DefRec} {K : Params -> PySem.W.Frag} (hn : l.most = some 63) (hdf : d.params.defaults = [])
    (hY : ∀ (w : World) (h : Heap),YP w h -> (K w.params).In h)
    (F : ∀ (w : World) (mg : Str -> Option Value) (fa : Addr) (h : Heap),(K w.params).In h -> h.Ns mainGlobals mg -> mg d.name = some (.ref fa) ->
      ∃ fd : FuncData,(∀ (s : Shared) (u : Value),BindsTo s fd ⟨[u],[]⟩ [("_law_script",u)]) /\ ∀ base : Heap,(K w.params).In base -> base.Ns mainGlobals mg -> FnOk l.prog w (K w.params) mg base CX0 5 fa fd ["_law_script"] (upSp (K w.params) sp_law)) :
    PySem.W.WalkO q loose XP YP l.row.toRowW d [] (λ f vs => PySem.call f vs) :=
  L2.walk_of (n := 63) (k := 5) (x := "_law_script") (CX := λ _ => CX0) (sp := λ w => upSp (K w.params) sp_law) hn (by decide) hdf ⟨rfl,rfl,by decide,by decide⟩ hY F (λ _ H a ns hl hO hS => D.law_start hl hO hS law_read) λ _ _ _ _ _ z => z
end K47
open PySem PySem.W PyProof.Rows
set_option maxRecDepth 100000 in
set_option maxHeartbeats 0 in
theorem PySem.Challenge.cw_placedworks_k47_whole_machine_is_its_las_holds : PySem.Challenge.rw_placedworks_k47_whole_machine_is_its_las.Holds := by
  w_on; o_law; k_head; (case hw => w_witness2)
  k_fill
  refine K47.walk (l := PySem.Challenge.rw_placedworks_k47_whole_machine_is_its_las) rfl rfl (λ w h Y => PySem.W.kIn_of Y) ?F
  case F =>
    intro w mg fa h KX G hmg
    refine' K47.all_mk KX G hmg ?a_l_bag ?l_l_bag ?c_l_bag ?k_l_bag ?a_Machine_init ?i_Machine_init ?l_Machine_init ?c_Machine_init ?k_Machine_init ?a_l_take ?l_l_take ?c_l_take ?k_l_take ?a_l_copy_row ?l_l_copy_row ?c_l_copy_row ?k_l_copy_row ?a_l_sheet ?l_l_sheet ?c_l_sheet ?k_l_sheet ?a_l_drawn ?l_l_drawn ?c_l_drawn ?k_l_drawn ?a_Machine_rise ?i_Machine_rise ?l_Machine_rise ?c_Machine_rise ?k_Machine_rise ?a_Machine_fall ?i_Machine_fall ?l_Machine_fall ?c_Machine_fall ?k_Machine_fall ?a_is_answering ?l_is_answering ?c_is_answering ?k_is_answering ?a_Machine_answers ?i_Machine_answers ?l_Machine_answers ?c_Machine_answers ?k_Machine_answers ?a_failed ?l_failed ?c_failed ?k_failed ?a_Machine_fail ?i_Machine_fail ?l_Machine_fail ?c_Machine_fail ?k_Machine_fail ?a_new_copy ?l_new_copy ?c_new_copy ?k_new_copy ?a_Machine_take ?i_Machine_take ?l_Machine_take ?c_Machine_take ?k_Machine_take ?a_gone_on ?l_gone_on ?c_gone_on ?k_gone_on ?a_Machine_go_on ?i_Machine_go_on ?l_Machine_go_on ?c_Machine_go_on ?k_Machine_go_on ?a_l_done ?l_l_done ?c_l_done ?k_l_done ?a_Machine_copied ?i_Machine_copied ?l_Machine_copied ?c_Machine_copied ?k_Machine_copied ?a_Machine_lease_at ?i_Machine_lease_at ?l_Machine_lease_at ?c_Machine_lease_at ?k_Machine_lease_at ?a_Machine_called ?i_Machine_called ?l_Machine_called ?c_Machine_called ?k_Machine_called ?a_Machine_berths ?i_Machine_berths ?l_Machine_berths ?c_Machine_berths ?k_Machine_berths ?a_Machine_life ?i_Machine_life ?l_Machine_life ?c_Machine_life ?k_Machine_life ?a_Machine_stands ?i_Machine_stands ?l_Machine_stands ?c_Machine_stands ?k_Machine_stands ?a_told_copy ?l_told_copy ?c_told_copy ?k_told_copy ?a_Machine_lying ?i_Machine_lying ?l_Machine_lying ?c_Machine_lying ?k_Machine_lying ?a_Machine_leases ?i_Machine_leases ?l_Machine_leases ?c_Machine_leases ?k_Machine_leases ?a_Machine_beat ?i_Machine_beat ?l_Machine_beat ?c_Machine_beat ?k_Machine_beat ?a_l_seen ?l_l_seen ?c_l_seen ?k_l_seen ?a_l_right ?l_l_right ?c_l_right ?k_l_right ?a_law ?l_law ?c_law ?k_law ?aC_Machine ?pg_Machine ?hd_Machine ?po_Machine ?sa_Machine ?mk_Machine ?kc_Machine ?n_Machine_berth_count ?n_Machine_known_leases ?n_Machine_laid ?n_Machine_lives ?n_Machine_name ?n_Machine_sheet_turn ?n_Machine_standing ?b_abs ?b_dict ?b_len ?b_list ?b_max ?b_range ?b_repr ?b_sorted ?b_tuple
    (case a_l_bag => k_is)
    (case l_l_bag => k_is)
    (case c_l_bag => k_is)
    (case k_l_bag => k_is)
    (case a_Machine_init => k_is)
    (case i_Machine_init => k_is)
    (case l_Machine_init => k_is)
    (case c_Machine_init => k_is)
    (case k_Machine_init => k_is)
    (case a_l_take => k_is)
    (case l_l_take => k_is)
    (case c_l_take => k_is)
    (case k_l_take => k_is)
    (case a_l_copy_row => k_is)
    (case l_l_copy_row => k_is)
    (case c_l_copy_row => k_is)
    (case k_l_copy_row => k_is)
    (case a_l_sheet => k_is)
    (case l_l_sheet => k_is)
    (case c_l_sheet => k_is)
    (case k_l_sheet => k_is)
    (case a_l_drawn => k_is)
    (case l_l_drawn => k_is)
    (case c_l_drawn => k_is)
    (case k_l_drawn => k_is)
    (case a_Machine_rise => k_is)
    (case i_Machine_rise => k_is)
    (case l_Machine_rise => k_is)
    (case c_Machine_rise => k_is)
    (case k_Machine_rise => k_is)
    (case a_Machine_fall => k_is)
    (case i_Machine_fall => k_is)
    (case l_Machine_fall => k_is)
    (case c_Machine_fall => k_is)
    (case k_Machine_fall => k_is)
    (case a_is_answering => k_is)
    (case l_is_answering => k_is)
    (case c_is_answering => k_is)
    (case k_is_answering => k_is)
    (case a_Machine_answers => k_is)
    (case i_Machine_answers => k_is)
    (case l_Machine_answers => k_is)
    (case c_Machine_answers => k_is)
    (case k_Machine_answers => k_is)
    (case a_failed => k_is)
    (case l_failed => k_is)
    (case c_failed => k_is)
    (case k_failed => k_is)
    (case a_Machine_fail => k_is)
    (case i_Machine_fail => k_is)
    (case l_Machine_fail => k_is)
    (case c_Machine_fail => k_is)
    (case k_Machine_fail => k_is)
    (case a_new_copy => k_is)
    (case l_new_copy => k_is)
    (case c_new_copy => k_is)
    (case k_new_copy => k_is)
    (case a_Machine_take => k_is)
    (case i_Machine_take => k_is)
    (case l_Machine_take => k_is)
    (case c_Machine_take => k_is)
    (case k_Machine_take => k_is)
    (case a_gone_on => k_is)
    (case l_gone_on => k_is)
    (case c_gone_on => k_is)
    (case k_gone_on => k_is)
    (case a_Machine_go_on => k_is)
    (case i_Machine_go_on => k_is)
    (case l_Machine_go_on => k_is)
    (case c_Machine_go_on => k_is)
    (case k_Machine_go_on => k_is)
    (case a_l_done => k_is)
    (case l_l_done => k_is)
    (case c_l_done => k_is)
    (case k_l_done => k_is)
    (case a_Machine_copied => k_is)
    (case i_Machine_copied => k_is)
    (case l_Machine_copied => k_is)
    (case c_Machine_copied => k_is)
    (case k_Machine_copied => k_is)
    (case a_Machine_lease_at => k_is)
    (case i_Machine_lease_at => k_is)
    (case l_Machine_lease_at => k_is)
    (case c_Machine_lease_at => k_is)
    (case k_Machine_lease_at => k_is)
    (case a_Machine_called => k_is)
    (case i_Machine_called => k_is)
    (case l_Machine_called => k_is)
    (case c_Machine_called => k_is)
    (case k_Machine_called => k_is)
    (case a_Machine_berths => k_is)
    (case i_Machine_berths => k_is)
    (case l_Machine_berths => k_is)
    (case c_Machine_berths => k_is)
    (case k_Machine_berths => k_is)
    (case a_Machine_life => k_is)
    (case i_Machine_life => k_is)
    (case l_Machine_life => k_is)
    (case c_Machine_life => k_is)
    (case k_Machine_life => k_is)
    (case a_Machine_stands => k_is)
    (case i_Machine_stands => k_is)
    (case l_Machine_stands => k_is)
    (case c_Machine_stands => k_is)
    (case k_Machine_stands => k_is)
    (case a_told_copy => k_is)
    (case l_told_copy => k_is)
    (case c_told_copy => k_is)
    (case k_told_copy => k_is)
    (case a_Machine_lying => k_is)
    (case i_Machine_lying => k_is)
    (case l_Machine_lying => k_is)
    (case c_Machine_lying => k_is)
    (case k_Machine_lying => k_is)
    (case a_Machine_leases => k_is)
    (case i_Machine_leases => k_is)
    (case l_Machine_leases => k_is)
    (case c_Machine_leases => k_is)
    (case k_Machine_leases => k_is)
    (case a_Machine_beat => k_is)
    (case i_Machine_beat => k_is)
    (case l_Machine_beat => k_is)
    (case c_Machine_beat => k_is)
    (case k_Machine_beat => k_is)
    (case a_l_seen => k_is)
    (case l_l_seen => k_is)
    (case c_l_seen => k_is)
    (case k_l_seen => k_is)
    (case a_l_right => k_is)
    (case l_l_right => k_is)
    (case c_l_right => k_is)
    (case k_l_right => k_is)
    (case a_law => k_is)
    (case l_law => k_is)
    (case c_law => k_is)
    (case k_law => k_is)
    (case aC_Machine => k_is)
    (case pg_Machine => k_is)
    (case hd_Machine => k_is)
    (case po_Machine => k_is)
    (case sa_Machine => k_is)
    (case mk_Machine => k_is)
    (case kc_Machine => k_is)
    (case n_Machine_berth_count => k_is)
    (case n_Machine_known_leases => k_is)
    (case n_Machine_laid => k_is)
    (case n_Machine_lives => k_is)
    (case n_Machine_name => k_is)
    (case n_Machine_sheet_turn => k_is)
    (case n_Machine_standing => k_is)
    (case b_abs => k_is)
    (case b_dict => k_is)
    (case b_len => k_is)
    (case b_list => k_is)
    (case b_max => k_is)
    (case b_range => k_is)
    (case b_repr => k_is)
    (case b_sorted => k_is)
    (case b_tuple => k_is)

