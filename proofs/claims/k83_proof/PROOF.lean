import PyProof.Rows.All
import Wide.All
import OpenK.AllK
import Wide.FinOn
import Lean
import PyProof.EqAt
import PyProof.EqKinds
import PyProof.TupleCall
import KE.KSortTup
import KE.KDictSum
import PyProof.Rows.Range3
import PyProof.Rows.SortRev
import PyProof.StrBlock2
import PyProof.ZipIter
import PyProof.Rows.ZipGen
import PyProof.NeKinds
import PyProof.DictCompW
import PyProof.DictWalks
import PyProof.AttrMissHeap
import PyProof.WalksS
import KE.KDictOf
import KE.KListMore
import KE.KEqDict
import PyProof.StationsW
import PyProof.InstStoreFacts
import PyProof.ExcBaseAll.ValueError
import PyProof.ExcClass2
import PyProof.RulesAs
import KE.KTryMore
import PyProof.ExcArgs
import KE.KIsAll
import OpenK.KOwn
import PyProof.P3In
import PyProof.DictUpdate
import PyProof.MeetsSeq2
import KE.KIntText
import KE.KRevSl
import PyProof.Rows.StrLawsPart
import PyProof.EnumMake
import PyProof.Draws
import PyProof.ListRange
import PyProof.TupleOfStr
import KE.KLam
import KE.KNestM
import KE.KMinKey
import PySem.Challenge.RW_placedworks_k83_asks_let_in
set_option genSizeOf false
set_option genSizeOfSpec false
set_option bootstrap.genMatcherCode false
set_option Elab.async false
set_option linter.all false
set_option maxRecDepth 100000
namespace L2
open PySem PySem.Spec PyProof.Rows
abbrev Key:=Sum Int Str
def qD:Key->Value->Bool
 | .inl k,v=>Value.isInt k v
 | .inr x,v=>Value.isStrOf x v
def ahC (w:World):Key->Int
 | .inl k=>hashInt k
 | .inr x=>hashStr w x
theorem bH:∀ {k:Key} {v:Value},qD k v=true->(∃ i t,k=Sum.inl i/\v=Value.int i t)\/(∃ x t,k=Sum.inr x/\v=Value.str x t)
 | .inl i,v,h=>by
  obtain ⟨t,e⟩:=Value.isInt_shape (k:=i) (v:=v) h
  exact .inl ⟨i,t,rfl,e⟩
 | .inr x,v,h=>by
  obtain ⟨t,e⟩:=Value.isStrOf_shape (x:=x) (v:=v) h
  exact .inr ⟨x,t,rfl,e⟩
theorem vm (i:Int)(t:Tok):qD (.inl i) (.int i t)=true:=by simp [qD,Value.isInt]
theorem vP (x:Str)(t:Tok):qD (.inr x) (.str x t)=true:=by simp [qD,Value.isStrOf]
theorem aeq (a b:Int):decide ((Sum.inl a:Key)=Sum.inl b)=(a == b):=by
 by_cases e:a=b
 ·subst e; simp
 ·have h:¬ (Sum.inl a:Key)=Sum.inl b:=λ q=>e (Sum.inl.inj q)
  rw [decide_eq_false h]
  exact (beq_eq_false_iff_ne.mpr e).symm
theorem aep (a b:Str):decide ((Sum.inr a:Key)=Sum.inr b)=decide (a=b):=by
 by_cases e:a=b
 ·subst e; simp
 ·have h:¬ (Sum.inr a:Key)=Sum.inr b:=λ q=>e (Sum.inr.inj q)
  rw [decide_eq_false h,decide_eq_false e]
theorem aes (a:Int)(b:Str):decide ((Sum.inl a:Key)=Sum.inr b)=false:=decide_eq_false (λ q=>nomatch q)
theorem adR (a:Str)(b:Int):decide ((Sum.inr a:Key)=Sum.inl b)=false:=decide_eq_false (λ q=>nomatch q)
def aX (prog:Program)(w:World):PySem.KeyKind prog w Key where
 is:=qD
 hash:=ahC w
 inj:=λ v a b ha hb=>by
  rcases bH ha with ⟨i,t,rfl,rfl⟩ | ⟨x,t,rfl,rfl⟩
  ·rcases bH hb with ⟨j,u,rfl,e⟩ | ⟨y,u,rfl,e⟩
   ·injection e with e1 _; rw [e1]
   ·exact nomatch e
  ·rcases bH hb with ⟨j,u,rfl,e⟩ | ⟨y,u,rfl,e⟩
   ·exact nomatch e
   ·injection e with e1 _; rw [e1]
 byValue:=λ k v h=>by
  rcases bH h with ⟨i,t,rfl,rfl⟩ | ⟨x,t,rfl,rfl⟩ <;> rfl
 pyHash:=λ hv h=>by
  rcases bH hv with ⟨i,t,rfl,rfl⟩ | ⟨x,t,rfl,rfl⟩
  ·exact wpAny_pyHash_int h
  ·exact wpAny_pyHash_str h
 eqBool:=λ hu hv h=>by
  rcases bH hu with ⟨i,t,rfl,rfl⟩ | ⟨x,t,rfl,rfl⟩
  ·rcases bH hv with ⟨j,u,rfl,rfl⟩ | ⟨y,u,rfl,rfl⟩
   ·rw [aeq] at h; exact wpAny_eqBool_int h
   ·rw [aes] at h; exact SeqAt.EqAt.int_str i t y u _ _ _ _ h
  ·rcases bH hv with ⟨j,u,rfl,rfl⟩ | ⟨y,u,rfl,rfl⟩
   ·rw [adR] at h; exact SeqAt.EqAt.str_int x t j u _ _ _ _ h
   ·rw [aep] at h; exact wpAny_eqBool_str h
 «strs»:=λ k x t v h=>by
  rcases bH h with ⟨i,u,rfl,e⟩ | ⟨y,u,rfl,e⟩
  ·exact nomatch e
  ·injection e with e1 _
   subst e1
   cases v <;> rfl
theorem uo (prog:Program)(w:World)(k:Key)(v:Value):(aX prog w).is k v=qD k v:=rfl
theorem qZ (prog:Program)(w:World)(i:Int)(t:Tok):(aX prog w).is (.inl i) (.int i t)=true:=vm i t
theorem rB (prog:Program)(w:World)(x:Str)(t:Tok):(aX prog w).is (.inr x) (.str x t)=true:=vP x t
end L2
namespace L2
open PySem PySem.Spec PyProof.Rows
inductive V where
 | non | bl (b:Bool) | int (i:Int) | str (x:Str) | byt (b:Array UInt8) | flt (b:UInt64) | ref (a:Addr) | ty (n:String)
 deriving DecidableEq
def RelV:V->Value->Prop
 | .non,u=>u=Value.none
 | .bl b,u=>u=Value.bool b
 | .int i,u=>∃ t,u=Value.int i t
 | .str x,u=>∃ t,u=Value.str x t
 | .byt b,u=>∃ t,u=Value.bytes b t
 | .flt b,u=>∃ t,u=Value.float b t
 | .ref a,u=>u=Value.ref a
 | .ty n,u=>u=Value.type n
abbrev Vals:List V->List Value->Prop:=Paired RelV
theorem Vals.length {xs:List V}{us:List Value}(r:Vals xs us):xs.length=us.length:=Paired.length r
theorem Vals.get:∀ {xs:List V} {us:List Value} {i:Nat} {x:V},Vals xs us->xs[i]? = some x->∃ u,us[i]? = some u/\RelV x u
 | _,_,_,_,.nil,e=>by simp at e
 | _,_,0,_,.cons r _,e=>by simp at e; subst e; exact ⟨_,rfl,r⟩
 | _,_,i+1,x,.cons _ t,e=>by
  obtain ⟨u,h1,h2⟩:=Vals.get (i:=i) (x:=x) t (by simpa using e)
  exact ⟨u,by simpa using h1,h2⟩
theorem Vals.set {x:V}{u:Value}(r:RelV x u):∀ {xs:List V} {us:List Value} (i:Nat),Vals xs us->Vals (xs.set i x) (us.set i u)
 | _,_,_,.nil=>.nil
 | _,_,0,.cons _ t=>.cons r t
 | _,_,i+1,.cons q t=>.cons q (Vals.set r i t)
theorem Vals.append:∀ {xs ys:List V} {us ws:List Value},Vals xs us->Vals ys ws->Vals (xs++ys) (us++ws)
 | _,_,_,_,.nil,s=>s
 | _,_,_,_,.cons r t,s=>.cons r (Vals.append t s)
theorem Vals.take:∀ {xs:List V} {us:List Value} (n:Nat),Vals xs us->Vals (xs.take n) (us.take n)
 | _,_,0,_=>.nil
 | _,_,_+1,.nil=>.nil
 | _,_,n+1,.cons r t=>.cons r (Vals.take n t)
theorem Vals.drop:∀ {xs:List V} {us:List Value} (n:Nat),Vals xs us->Vals (xs.drop n) (us.drop n)
 | _,_,0,r=>r
 | _,_,_+1,.nil=>.nil
 | _,_,n+1,.cons _ t=>Vals.drop n t
def nk:Option V->Option Value->Prop
 | some v,some u=>RelV v u
 | none,none=>True
 | _,_=>False
def KV {κ:Type}:List (κ×V)->List (κ×Value)->Prop:=Paired λ (p:κ×V) (q:κ×Value)=>p.1=q.1/\RelV p.2 q.2
def kV:Key->V
 | .inl i=>.int i
 | .inr x=>.str x
inductive HO where
 | lst (xs:List V)
 | tup (xs:List V)
 | dK (kvs:List (Key×V)) | dT (kvs:List (List Key×V))
 | set (S:Int->Bool) (n:Nat)
 | ins (C dx:Addr) (fs:List (Str×V))
 | own (x:Addr)
 | xd (fs:List (Str×V))
 | met (f x:Addr)
 | rng (lo hi:Int)
 | frz (o:Obj) (u:HO)
 | tbl (ps:Array Value)
 | ext (φ:Heap->Prop)
abbrev Hp:=Addr->Option HO
def upd (H:Hp)(a:Addr)(o:HO):Hp:=λ b=>if b=a then some o else H b
theorem au {H:Hp}{a:Addr}{o:HO}:upd H a o a=some o:=by unfold upd; rw [if_pos rfl]
theorem ao {H:Hp}{a b:Addr}{o:HO}(h:b≠a):upd H a o b=H b:=by unfold upd; rw [if_neg h]
theorem aa7 {H:Hp}{a:Addr}{o u:HO}:upd (upd H a o) a u=upd H a u:=by
 funext b; unfold upd; split <;> rfl
theorem uE {H:Hp}{a b:Addr}{o u:HO}(h:H a=some o)(h':H b=some u)(d:o≠u):a≠b:=by
 intro e; subst e; rw [h] at h'; exact d (Option.some.inj h')
theorem aL {H:Hp}{a b:Addr}{o:HO}(h:H a=some o)(h':H b=none):a≠b:=by
 intro e; subst e; rw [h] at h'; cases h'
def aaH (h:Heap)(a:Addr)(items:Array Value):Prop:=∃ o,h.get? a=some o/\o.cls=.type "tuple" /\ o.dict=none/\∃ n,o.data=.seq items n
theorem aaH.tup {h:Heap}{a:Addr}{items:Array Value}(x:aaH h a items):IsTup h a items:=let ⟨o,h1,h2,_,h3⟩:=x; ⟨o,h1,h2,h3⟩
theorem aaH.new (h:Heap)(items:Array Value):aaH (h.push { cls:=.type "tuple",data:=.seq items }) h.objs.size items:=⟨_,Heap.get?_push_size _ rfl,rfl,rfl,_,rfl⟩
section
variable (P:Program)(w:World)
def bX (H:Hp)(h:Heap)(a:Addr):HO->Prop
 | .lst xs=>xs.length<=sizeLine/\∃ (its:List Value) (n:Nat),Vals xs its/\h.get? a=some { cls:=.type "list",data:=.seq its.toArray n }
 | .tup xs=>xs.length<=sizeLine/\∃ its:List Value,Vals xs its/\aaH h a its.toArray
 | .dK kvs=>kvs.length<=sizeLine/\(a == sysModules)=false/\∃ vs,KV kvs vs/\h.DictOf (aX P w) a vs
 | .dT kvs=>kvs.length<=sizeLine/\(a == sysModules)=false/\∃ xs:List (List Key×Addr×Value),
   Paired (λ (p:List Key×V) (q:List Key×Addr×Value)=>p.1=q.1/\H q.2.1=some (.tup (p.1.map kV))/\RelV p.2 q.2.2) kvs xs /\
   ∃ o es ep,h.get? a=some o/\o.ExactDict/\o.data=.dict es ep/\es.toList=xs.map (entryOfKey (tupleKind (aX P w)))/\(xs.map (·.1)).Nodup
 | .set S n=>h.SetOf (intKind P w) a S n
 | .ins C dx fs=>H dx=some (.own a)/\fs.length<=1000/\dx≠a/\h.get? a=some (PySem.W.instObj C dx) /\
   ∃ mA,h.Ns1 dx mA/\(∀ f,nk (fs.lookup f) (mA f))/\PySem.Within mA (fs.map (·.1))
 | .own _=>∃ o,h.get? a=some o
 | .xd fs=>∃ mA,h.Ns1 a mA/\∀ f,nk (fs.lookup f) (mA f)
 | .rng lo hi=>∃ t u v,h.get? a=some { cls:=.type "range",data:=.fields #[.int lo t,.int hi u,.int 1 v] }
 | .frz o u=>h.get? a=some o/\bX H h a u
 | .tbl ps=>h.get? a=some { cls:=.none,data:=.fields ps }
 | .met f x=>h.get? a=some (PySem.W.methodObj (.ref f) (.ref x))
 | .ext φ=>φ h/\(∃ o,h.get? a=some o)/\∀ h1 h2:Heap,φ h1->(∀ o,h1.get? a=some o->h2.get? a=some o)->φ h2
def HOk (H:Hp)(h:Heap):Prop:=∀ a o,H a=some o->bX P w H h a o
end
section
variable {P:Program}{w:World}{H H':Hp}{h h':Heap}{a:Addr}{o:HO}
theorem bX.lt (x:bX P w H h a o):a < h.objs.size:=by
 cases o with
 | lst xs=>obtain ⟨_,_,_,_,e⟩:=x; exact Heap.lt_size e
 | tup xs=>obtain ⟨_,_,_,p⟩:=x; exact p.tup.lt
 | dK kvs=>obtain ⟨_,_,_,_,o,_,_,e,_⟩:=x; exact Heap.lt_size e
 | dT kvs=>obtain ⟨_,_,_,_,o,_,_,e,_⟩:=x; exact Heap.lt_size e
 | set S n=>obtain ⟨o,_,_,_,e,_⟩:=x; exact Heap.lt_size e
 | ins C dx fs=>obtain ⟨_,_,_,e,_⟩:=x; exact Heap.lt_size e
 | own y=>obtain ⟨_,e⟩:=x; exact Heap.lt_size e
 | xd fs=>obtain ⟨_,⟨_,_,_,e,_⟩,_⟩:=x; exact Heap.lt_size e
 | rng lo hi=>obtain ⟨_,_,_,e⟩:=x; exact Heap.lt_size e
 | frz ob u=>obtain ⟨e,_⟩:=x; exact Heap.lt_size e
 | tbl ps=>exact Heap.lt_size (show h.get? a=some _ from x)
 | met f y=>exact Heap.lt_size (show h.get? a=some _ from x)
 | ext φ=>obtain ⟨_,⟨_,e⟩,_⟩:=x; exact Heap.lt_size e
theorem Paired.je {α β:Type}{F G:α->β->Prop}:∀ {l₁:List α} {l₂:List β},Paired F l₁ l₂->(∀ a b,F a b->G a b)->Paired G l₁ l₂
 | _,_,.nil,_=>.nil
 | _,_,.cons r t,f=>.cons (f _ _ r) (Paired.je t f)
theorem bX.rL (x:bX P w H h a o)(k:∀ b u,(b=a\/H b=some (.own a))->h.get? b=some u->h'.get? b=some u)
  (ho:∀ b,H b=some (.own a)->H' b=some (.own a))(ht:∀ b xs,H b=some (.tup xs)->H' b=some (.tup xs)):bX P w H' h' a o:=by
 induction o with
 | lst xs=>obtain ⟨z,its,n,r,e⟩:=x; exact ⟨z,its,n,r,k _ _ (.inl rfl) e⟩
 | tup xs=>obtain ⟨z,its,r,ob,e,c⟩:=x; exact ⟨z,its,r,ob,k _ _ (.inl rfl) e,c⟩
 | dK kvs=>obtain ⟨z,y,vs,r,ob,es,ep,e,c⟩:=x; exact ⟨z,y,vs,r,ob,es,ep,k _ _ (.inl rfl) e,c⟩
 | dT kvs =>
  obtain ⟨z,y,xs,r,ob,es,ep,e,c⟩:=x
  exact ⟨z,y,xs,Paired.je r λ p q z=>⟨z.1,ht _ _ z.2.1,z.2.2⟩,ob,es,ep,k _ _ (.inl rfl) e,c⟩
 | set S n=>obtain ⟨ob,es,ep,t,e,c⟩:=x; exact ⟨ob,es,ep,t,k _ _ (.inl rfl) e,c⟩
 | ins C dx fs =>
  obtain ⟨d,z,ne,e,mA,⟨od,es,ep,e2,c⟩,r⟩:=x
  exact ⟨ho _ d,z,ne,k _ _ (.inl rfl) e,mA,⟨od,es,ep,k _ _ (.inr d) e2,c⟩,r⟩
 | own y=>obtain ⟨ob,e⟩:=x; exact ⟨ob,k _ _ (.inl rfl) e⟩
 | xd fs=>obtain ⟨mA,⟨od,es,ep,e,c⟩,r⟩:=x; exact ⟨mA,⟨od,es,ep,k _ _ (.inl rfl) e,c⟩,r⟩
 | rng lo hi=>obtain ⟨t,u,v,e⟩:=x; exact ⟨t,u,v,k _ _ (.inl rfl) e⟩
 | frz ob u ih=>obtain ⟨e,q⟩:=x; exact ⟨k _ _ (.inl rfl) e,ih q⟩
 | tbl ps =>
  have e:h.get? a=some { cls:=.none,data:=.fields ps }:=x
  show h'.get? a=some { cls:=.none,data:=.fields ps }
  exact k a _ (.inl rfl) e
 | met f y =>
  have e:h.get? a=some (PySem.W.methodObj (.ref f) (.ref y)):=x
  show h'.get? a=some (PySem.W.methodObj (.ref f) (.ref y))
  exact k a _ (.inl rfl) e
 | ext φ=>obtain ⟨p,⟨o,e⟩,st⟩:=x; exact ⟨st _ _ p λ o q=>k _ _ (.inl rfl) q,⟨o,k _ _ (.inl rfl) e⟩,st⟩
theorem HOk.lt (x:HOk P w H h)(e:H a=some o):a < h.objs.size:=(x a o e).lt
theorem HOk.fresh (x:HOk P w H h)(e:h.objs.size<=a):H a=none:=by
 cases q:H a with
 | none=>rfl
 | some u=>exact absurd (Nat.lt_of_lt_of_le (x.lt q) e) (Nat.lt_irrefl _)
theorem HOk.kept (x:HOk P w H h)(k:∀ b u,h.get? b=some u->h'.get? b=some u):HOk P w H h':=λ a o e =>
 (x a o e).rL (λ b u _ q=>k b u q) (λ _ q=>q) λ _ _ q=>q
theorem HOk.laid (x:HOk P w H h)(k:∀ b u,h.get? b=some u->h'.get? b=some u)(hp:h.objs.size<=a)(new:bX P w (upd H a o) h' a o):HOk P w (upd H a o) h':=λ b u e=>by
 have hn:=x.fresh hp
 by_cases hb:b=a
 ·subst hb; rw [au] at e; cases e; exact new
 ·rw [ao hb] at e
  exact (x b u e).rL (λ c v _ q=>k c v q) (λ c q=>by rw [ao (aL q hn)]; exact q) λ c xs q=>by rw [ao (aL q hn)]; exact q
end
def Rd (H:Hp)(a:Addr)(u:HO):Prop:=H a=some u\/∃ o,H a=some (.frz o u)
theorem Rd.ok {P:Program}{w:World}{H:Hp}{h:Heap}{a:Addr}{u:HO}(r:Rd H a u)(x:HOk P w H h):bX P w H h a u:=by
 rcases r with r | ⟨o,r⟩
 ·exact x a u r
 ·obtain ⟨_,q⟩:=x a _ r
  exact q
def Mut:Option HO->Prop
 | some (.lst _)=>True
 | some (.dK _)=>True
 | some (.dT _)=>True
 | some (.set _ _)=>True
 | some (.ins _ _ _)=>True
 | some (.ext _)=>True
 | _=>False
section
variable {P:Program}{w:World}{H:Hp}{h h':Heap}{x e:Addr}{o':HO}
theorem HOk.write (ok:HOk P w H h)(mu:Mut (H x))(he:e=x\/H e=some (.own x))(k:∀ b u,b≠e->h.get? b=some u->h'.get? b=some u)(heo:∃ u,h'.get? e=some u)
  (new:bX P w (upd H x o') h' x o'):HOk P w (upd H x o') h':=λ b u q=>by
 have nown:∀ c y,H c=some (.own y)->c≠x:=λ c y r z=>by subst z; rw [r] at mu; exact mu
 have ntup:∀ c xs,H c=some (.tup xs)->c≠x:=λ c xs r z=>by subst z; rw [r] at mu; exact mu
 by_cases hb:b=x
 ·subst hb; rw [au] at q; cases q; exact new
 ·rw [ao hb] at q
  by_cases hbe:b=e
  ·have q':H b=some (.own x):=by
    rcases he with z | z
    ·exact absurd (hbe.trans z) hb
    ·rw [hbe]; exact z
   rw [q] at q'; cases q'
   obtain ⟨v,hv⟩:=heo
   exact ⟨v,by rw [hbe]; exact hv⟩
  ·refine (ok b u q).rL (λ c v hc r=>k c v ?_ r) (λ c r=>by rw [ao (nown c b r)]; exact r) λ c xs r=>by rw [ao (ntup c xs r)]; exact r
   rcases hc with rfl | hc
   ·exact hbe
   ·rintro rfl
    rcases he with z | z
    ·exact nown c b hc z
    ·rw [hc] at z; cases z; exact hb rfl
end
structure Un (fs ex:List Addr)(H H':Hp)(h h':Heap):Prop where
 keep:∀ b o,h.get? b=some o->H b=none->b ∉ fs->b ∉ ex->h'.get? b=some o
 slot:∀ b o,h.get? b=some o->H b=none->b∈fs->b ∉ ex->∃ sl,h'.get? b=some { o with slots:=sl }
 free:∀ b o,h.get? b=some o->H b=none->b ∉ ex->H' b=none
 there:∀ b o,h.get? b=some o->b ∉ ex->∃ o',h'.get? b=some o'
 tups:∀ b xs,H b=some (.tup xs)->H' b=some (.tup xs)
 frzs:∀ b o u,H b=some (.frz o u)->H' b=some (.frz o u)
 tbls:∀ b ps,H b=some (.tbl ps)->∃ more,H' b=some (.tbl (ps++more))
section
variable {fs fs' ex ex':List Addr}{H H1 H2:Hp}{h h1 h2 h':Heap}{a x e:Addr}{o:HO}
theorem Un.any (u:Un fs ex H H1 h h1){b:Addr}{ob:Obj}(q:h.get? b=some ob)(n:H b=none)(hx:b ∉ ex):∃ sl,h1.get? b=some { ob with slots:=sl }:=by
 by_cases hb:b∈fs
 ·exact u.slot b ob q n hb hx
 ·exact ⟨ob.slots,u.keep b ob q n hb hx⟩
theorem Un.kept (k:∀ b u,h.get? b=some u->h'.get? b=some u):Un fs ex H H h h' :=
 ⟨λ b ob q _ _ _=>k b ob q,λ b ob q _ _ _=>⟨ob.slots,k b ob q⟩,λ _ _ _ n _=>n,λ b ob q _=>⟨ob,k b ob q⟩,λ _ _ q=>q,λ _ _ _ q=>q,λ _ ps q=>⟨#[],by rw [q]; simp⟩⟩
theorem Un.refl:Un fs ex H H h h:=Un.kept λ _ _ q=>q
theorem Un.laid (k:∀ b u,h.get? b=some u->h'.get? b=some u)(hp:h.objs.size<=a)(hn:H a=none):Un fs ex H (upd H a o) h h' where
 keep:=λ b u q _ _ _=>k b u q
 slot:=λ b u q _ _ _=>⟨u.slots,k b u q⟩
 free:=λ b u q n _=>by rw [ao (Nat.ne_of_lt (Nat.lt_of_lt_of_le (Heap.lt_size q) hp))]; exact n
 there:=λ b u q _=>⟨u,k b u q⟩
 tups:=λ b xs q=>by rw [ao (aL q hn)]; exact q
 frzs:=λ b u xs q=>by rw [ao (aL q hn)]; exact q
 tbls:=λ b ps q=>⟨#[],by rw [ao (aL q hn),q]; simp⟩
theorem Un.write (mu:Mut (H x))(he:e=x\/H e=some (.own x))(k:∀ b u,b≠e->h.get? b=some u->h'.get? b=some u)(heo:∃ u,h'.get? e=some u):Un fs ex H (upd H x o) h h':=by
 have hx:∀ b,H b=none->b≠x:=λ b n z=>by subst z; rw [n] at mu; exact mu
 have hb:∀ b,H b=none->b≠e:=λ b n z=>by
  subst z
  rcases he with r | r
  ·exact hx b n r
  ·rw [n] at r; cases r
 have hm:∀ b u,H b=some u->¬ Mut (some u)->b≠x:=λ b u q nm z=>by subst z; rw [q] at mu; exact nm mu
 refine ⟨λ b u q n _ _=>k b u (hb b n) q,λ b u q n _ _=>⟨u.slots,k b u (hb b n) q⟩,λ b u q n _=>by rw [ao (hx b n)]; exact n,λ b u q _=>?_,
  λ b xs q=>by rw [ao (hm b _ q λ z=>z)]; exact q,λ b u xs q=>by rw [ao (hm b _ q λ z=>z)]; exact q,λ b ps q=>⟨#[],by rw [ao (hm b _ q λ z=>z),q]; simp⟩⟩
 by_cases hbe:b=e
 ·subst hbe; exact heo
 ·exact ⟨u,k b u hbe q⟩
end
def trk (h:Heap)(H:Hp):List Addr:=(List.range h.objs.size).filter λ a=>(H a).isSome
def yZ (h:Heap)(H:Hp):Heap:=PySem.W.hideAll h (trk h H)
theorem vj (h:Heap)(H:Hp):(yZ h H).objs.size=h.objs.size:=PySem.W.hideAll_size _ _
theorem yH {h:Heap}{H:Hp}{b:Addr}{o:Obj}(e:h.get? b=some o)(n:H b=none):(yZ h H).get? b=some o :=
 PySem.W.hideAll_get _ e λ hm=>by
  have q:(H b).isSome=true:=(List.mem_filter.mp hm).2
  rw [n] at q; simp at q
theorem acB {h:Heap}{H:Hp}{b:Addr}{o:Obj}(e:(yZ h H).get? b=some o):h.get? b=some o/\H b=none:=by
 have e':h.get? b=some o:=PySem.W.of_hideAll (trk h H) e
 refine ⟨e',?_⟩
 cases q:H b with
 | none=>rfl
 | some x =>
  have hm:b∈trk h H:=List.mem_filter.mpr ⟨List.mem_range.mpr (Heap.lt_size e'),by simp [q]⟩
  have z:(yZ h H).get? b=none:=PySem.W.hideAll_none (trk h H) hm
  rw [z] at e; cases e
def abd (g h:Heap)(L:Addr):List (Addr×Obj):=(List.range h.objs.size).filterMap λ a=>if a=L\/(g.get? a).isSome=true then none else (h.get? a).map λ o=>(a,o)
def rest (g h:Heap)(L d:Addr):List (Addr×Obj):=(abd g h L).filter λ p=>decide (p.1≠d)
end L2
namespace L2
open PySem PySem.Spec PyProof.Rows
def BM (mg:Str->Option Value)(h:Heap):Prop:=(∃ bm o,mg "__builtins__" = some (.ref bm)/\bm≠builtinsNs/\h.get? bm=some o/\o.cls=.type "module" /\ o.dict=some builtinsNs/\o.data=.plain)/\∃ mm,h.Ns sysModules mm
structure Mod (K:PySem.W.Frag)(mg:Str->Option Value)(base:Heap):Prop where
 kin:K.In base
 glob:base.Ns mainGlobals mg
 blt:∃ mb,base.Ns builtinsNs mb/\∀ x:Str,x ≠ "__name__" -> mb x=bootBuiltins x
 nolimit:base.NoLimit
 bm:BM mg base
structure Cx where
 prog:Program
 w:World
 K:PySem.W.Frag
 mg:Str->Option Value
 base:Heap
 A:Around
 N:List Str
 s₀:Shared
 H₀:Hp
 env:Env
 outer:List Env
 stack:List Env
 ex:List Addr
 fn:Str->Bool
 calm:Bool
 pn:List (Addr×Obj)
 xe:Value->Shared->Prop
def frs (l:List Env):List Addr:=l.filterMap (·.frame)
abbrev Cx.fs (X:Cx):List Addr:=frs X.outer
def Vis (sc:Scope)(x:Str):Prop:=sc.names.lookup x=some .local\/sc.names.lookup x=some .cell\/sc.names.lookup x=some .free
def Loc (sc:Scope)(x:Str):Prop:=sc.names.lookup x=some .local\/sc.names.lookup x=some .cell
def Look (env:Env)(h:Heap)(m:Str->Option Value)(x:Str)(u:Value):Prop :=
 (env.kindOf x=some .local/\m x=some u)\/((env.kindOf x=some .cell\/env.kindOf x=some .free)/\∃ c,env.cells.lookup x=some c/\h.IsCell c (some u))
structure Cx.Ok (X:Cx):Prop where
 mod:Mod X.K X.mg X.base
 kind:X.env.scope.kind=.function
 glob:X.env.globals=mainGlobals
 blt:X.env.builtins=builtinsNs
 above:X.s₀.heap.objs.size<=X.env.locals
 inj:∀ x y c,X.env.cells.lookup x=some c->X.env.cells.lookup y=some c->x=y
 has:∀ x,(X.env.kindOf x=some .cell\/X.env.kindOf x=some .free)->∃ c,X.env.cells.lookup x=some c
 cab:∀ x c,X.fn x=true->X.env.cells.lookup x=some c->X.s₀.heap.objs.size<=c
 hd:X.calm=true->X.A.handled=none
 frames:X.A.frames=some X.stack
 stk:X.stack=X.outer\/(X.stack=X.env :: X.outer/\X.env.frame=some X.env.locals)
 exf:∀ b∈X.ex,b≠X.env.locals/\∀ x c,X.env.cells.lookup x=some c->c≠b
 bs:∀ b o,X.base.get? b=some o->X.s₀.heap.get? b=some o/\X.H₀ b=none
 bsz:X.base.objs.size<=X.s₀.heap.objs.size
 noex:∀ b o,X.base.get? b=some o->b ∉ X.ex
 exfs:∀ b∈X.ex,b ∉ X.fs
 nN:X.s₀.heap.FunFrames X.base X.outer
 frf:∀ b∈X.fs,X.H₀ b=none
structure Inv (X:Cx)(pins:List (Addr×Obj))(σ:List (Option V))(H:Hp)(s:Shared):Prop where
 ok:X.Ok
 os:s.os=X.s₀.os
 bare:AllBare s.gens
 base:Un X.fs X.ex X.H₀ H X.s₀.heap s.heap
 loc:∃ m,s.heap.Ns X.env.locals m/\∀ (i:Nat) (x:Str) (v:V),X.N[i]? = some x->σ[i]? = some (some v)->Vis X.env.scope x->∃ u,RelV v u/\Look X.env s.heap m x u
 cell:∀ x c,X.env.cells.lookup x=some c->∃ v,s.heap.IsCell c v
 free:H X.env.locals=none
 freeC:∀ x c,X.env.cells.lookup x=some c->H c=none
 pin:∀ p∈X.pn++pins,s.heap.get? p.1=some p.2/\H p.1=none/\p.1≠X.env.locals/\p.1 ∉ X.fs/\∀ v,p.2.data ≠ .cell v
 hok:HOk X.prog X.w H s.heap
 len:σ.length=X.N.length
section
variable {X:Cx}{pins:List (Addr×Obj)}{σ:List (Option V)}{H H':Hp}{s:Shared}{h':Heap}
theorem Cx.Ok.ahB (ok:X.Ok){b:Addr}{o:Obj}(e:X.base.get? b=some o):b ∉ X.fs:=λ hb=>by
 have:=(ok.nN.mem hb).1
 rw [e] at this; cases this
theorem Inv.bs (I:Inv X pins σ H s):∀ b o,X.base.get? b=some o->s.heap.get? b=some o/\H b=none:=λ b o e =>
 ⟨I.base.keep b o (I.ok.bs b o e).1 (I.ok.bs b o e).2 (I.ok.ahB e) (I.ok.noex b o e),I.base.free b o (I.ok.bs b o e).1 (I.ok.bs b o e).2 (I.ok.noex b o e)⟩
theorem Inv.bk (I:Inv X pins σ H s):∀ b o,X.base.get? b=some o->s.heap.get? b=some o:=λ b o e=>(I.bs b o e).1
theorem Inv.mod (I:Inv X pins σ H s):Mod X.K X.mg X.base:=I.ok.mod
theorem Inv.kIn (I:Inv X pins σ H s):X.K.In s.heap:=I.ok.mod.kin.keeps I.bk
theorem Inv.nolimit (I:Inv X pins σ H s):s.heap.NoLimit:=I.ok.mod.nolimit.keeps I.bk
theorem Inv.fr (I:Inv X pins σ H s):∃ m,Fr X.base X.env.locals s.heap m :=
 let ⟨m,hn,_⟩:=I.loc
 ⟨m,hn,I.bk,Nat.le_trans I.ok.bsz I.ok.above⟩
theorem Inv.lt (I:Inv X pins σ H s):X.env.locals < s.heap.objs.size:=let ⟨_,hn,_⟩:=I.loc; hn.lt
theorem Inv.sz (I:Inv X pins σ H s):X.s₀.heap.objs.size<=s.heap.objs.size:=Nat.le_trans I.ok.above (Nat.le_of_lt I.lt)
theorem Inv.agJ (I:Inv X pins σ H s){a:Addr}(h:s.heap.objs.size<=a):a ∉ X.fs:=λ hb=>by
 obtain ⟨_,o,ho,_⟩:=I.ok.nN.mem hb
 exact absurd (Nat.lt_of_lt_of_le (Heap.lt_size ho) (Nat.le_trans I.sz h)) (Nat.lt_irrefl _)
theorem Inv.cne (I:Inv X pins σ H s):∀ x c,X.env.cells.lookup x=some c->c≠X.env.locals:=λ x c e z=>by
 obtain ⟨v,o,ho,hd⟩:=I.cell x c e
 obtain ⟨m,⟨o',es,ep,ho',hd',_⟩,_⟩:=I.loc
 rw [z,ho'] at ho; cases ho; rw [hd'] at hd; cases hd
theorem Inv.nN (I:Inv X pins σ H s):s.heap.FunFrames X.base X.outer:=by
 have all:∀ (l:List Env),(∀ b∈frs l,b∈X.fs)->X.s₀.heap.FunFrames X.base l->s.heap.FunFrames X.base l:=by
  intro l
  induction l with
  | nil=>intro _ _; trivial
  | cons env r ih =>
   intro hs hl
   obtain ⟨hk,⟨L,o,hf,hn,ho,hd⟩,hr⟩:=hl
   have hL:L∈X.fs:=hs L (by unfold frs; rw [List.filterMap_cons,hf]; exact List.mem_cons_self)
   obtain ⟨sl,e⟩:=I.base.slot L o ho (I.ok.frf L hL) hL λ z=>I.ok.exfs L z hL
   exact ⟨hk,⟨L,_,hf,hn,e,hd⟩,ih (λ b hb=>hs b (by unfold frs; rw [List.filterMap_cons,hf]; exact List.mem_cons_of_mem _ hb)) hr⟩
 exact all X.outer (λ _ hb=>hb) I.ok.nN
theorem Inv.stack (I:Inv X pins σ H s):s.heap.FunFrames X.base X.stack:=by
 rcases I.ok.stk with e | ⟨e,hf⟩
 ·rw [e]; exact I.nN
 ·rw [e]
  obtain ⟨m,hn,_⟩:=I.loc
  refine .cons (by rw [I.ok.kind]; decide) hf hn ?_ I.nN
  exact Heap.get?_none_of_le (Nat.le_trans I.ok.bsz I.ok.above)
theorem Inv.iO (I:Inv X pins σ H s):∀ b∈frs X.stack,b∈X.env.locals :: X.fs:=λ b hb=>by
 rcases I.ok.stk with e | ⟨e,hf⟩
 ·rw [e] at hb; exact List.mem_cons_of_mem _ hb
 ·rw [e] at hb
  unfold frs at hb
  rw [List.filterMap_cons,hf] at hb
  exact hb
theorem Inv.mZ (I:Inv X pins σ H s):∀ b∈frs X.stack,H b=none:=λ b hb=>by
 rcases List.mem_cons.mp (I.iO b hb) with e | hb
 ·rw [e]; exact I.free
 ·obtain ⟨_,o,ho,_⟩:=I.ok.nN.mem hb
  exact I.base.free b o ho (I.ok.frf b hb) λ z=>I.ok.exfs b z hb
theorem Inv.step {g':Array GenState}{t':Nat}{d':Drawn}{ch:List Addr}(I:Inv X pins σ H s)
  (hch:∀ b∈ch,(b∈X.ex\/X.s₀.heap.objs.size<=b)/\b≠X.env.locals/\(∀ x c,X.env.cells.lookup x=some c->c≠b)/\∀ p∈X.pn++pins,p.1≠b)
  (keep:∀ b o,b≠X.env.locals->b ∉ X.fs->b ∉ ch->s.heap.get? b=some o->H b=none->h'.get? b=some o)
  (slot:∀ b o,b≠X.env.locals->b∈X.fs->b ∉ ch->s.heap.get? b=some o->H b=none->∃ sl,h'.get? b=some { o with slots:=sl })(free:∀ b o,b ∉ ch->s.heap.get? b=some o->H b=none->H' b=none)
  (there:∀ b o,b ∉ ch->s.heap.get? b=some o->∃ o',h'.get? b=some o')
  (tups:∀ b xs,H b=some (.tup xs)->H' b=some (.tup xs))(frzs:∀ b o u,H b=some (.frz o u)->H' b=some (.frz o u))(tbls:∀ b ps,H b=some (.tbl ps)->∃ more,H' b=some (.tbl (ps++more)))
  (ns:∀ m,s.heap.Ns X.env.locals m->h'.Ns X.env.locals m)(hok:HOk X.prog X.w H' h')(hg:AllBare g') :
  Inv X pins σ H' { s with heap:=h',gens:=g',drawn:=d',toks:=t' }:=by
 have neL:∀ b o,X.s₀.heap.get? b=some o->b≠X.env.locals:=λ b o e=>Nat.ne_of_lt (Nat.lt_of_lt_of_le (Heap.lt_size e) I.ok.above)
 have neC:∀ b o,X.s₀.heap.get? b=some o->b ∉ X.ex->b ∉ ch:=λ b o e hx hb=>by
  rcases (hch b hb).1 with z | z
  ·exact hx z
  ·exact absurd (Nat.lt_of_lt_of_le (Heap.lt_size e) z) (Nat.lt_irrefl _)
 have cellK:∀ x c,X.env.cells.lookup x=some c->∀ v,s.heap.IsCell c v->h'.IsCell c v:=λ x c e v hq0=>by
  obtain ⟨o,ho,hd⟩:=hq0
  have nch:c ∉ ch:=λ z=>(hch c z).2.2.1 x c e rfl
  by_cases hc:c∈X.fs
  ·obtain ⟨sl,q⟩:=slot c o (I.cne x c e) hc nch ho (I.freeC x c e)
   exact ⟨_,q,hd⟩
  ·exact ⟨o,keep c o (I.cne x c e) hc nch ho (I.freeC x c e),hd⟩
 refine ⟨I.ok,I.os,hg,⟨λ b o e n hb hx=>?_,λ b o e n hb hx=>?_,λ b o e n hx=>?_,λ b o e hx=>?_,λ b xs e=>tups b xs (I.base.tups b xs e),λ b o xs e=>frzs b o xs (I.base.frzs b o xs e),λ b ps e=>?_⟩,?_,λ x c e=>?_,?_,λ x c e=>?_,λ p hp=>?_,hok,I.len⟩
 ·exact keep b o (neL b o e) hb (neC b o e hx) (I.base.keep b o e n hb hx) (I.base.free b o e n hx)
 ·obtain ⟨sl,e1⟩:=I.base.slot b o e n hb hx
  obtain ⟨sl',e2⟩:=slot b _ (neL b o e) hb (neC b o e hx) e1 (I.base.free b o e n hx)
  exact ⟨sl',e2⟩
 ·obtain ⟨o',e1⟩:=I.base.there b o e hx
  exact free b o' (neC b o e hx) e1 (I.base.free b o e n hx)
 ·obtain ⟨o',e1⟩:=I.base.there b o e hx
  exact there b o' (neC b o e hx) e1
 ·obtain ⟨m1,e1⟩:=I.base.tbls b ps e
  obtain ⟨m2,e2⟩:=tbls b _ e1
  exact ⟨m1++m2,by rw [e2,Array.append_assoc]⟩
 ·obtain ⟨m,hn,hl⟩:=I.loc
  refine ⟨m,ns m hn,λ i x v e1 e2 e3=>?_⟩
  obtain ⟨u,r,l⟩:=hl i x v e1 e2 e3
  refine ⟨u,r,?_⟩
  rcases l with l | ⟨k,c,e,z⟩
  ·exact .inl l
  ·exact .inr ⟨k,c,e,cellK x c e _ z⟩
 ·obtain ⟨v,z⟩:=I.cell x c e
  exact ⟨v,cellK x c e v z⟩
 ·obtain ⟨m,⟨o,_,_,ho,_⟩,_⟩:=I.loc
  exact free _ o (λ z=>(hch _ z).2.1 rfl) ho I.free
 ·obtain ⟨v,o,ho,hd⟩:=I.cell x c e
  exact free c o (λ z=>(hch c z).2.2.1 x c e rfl) ho (I.freeC x c e)
 ·obtain ⟨e,n,ne,nf,d⟩:=I.pin p hp
  have nch:p.1 ∉ ch:=λ z=>(hch p.1 z).2.2.2 p hp rfl
  exact ⟨keep p.1 p.2 ne nf nch e n,free p.1 p.2 nch e n,ne,nf,d⟩
theorem Inv.un {t':Nat}(I:Inv X pins σ H s)(u:Un X.fs [] H H' s.heap h')(hok:HOk X.prog X.w H' h'):Inv X pins σ H' { s with heap:=h',toks:=t' }:=by
 obtain ⟨m,⟨o,es,ep,ho,r⟩,_⟩:=id I.loc
 obtain ⟨sl,hL⟩:=u.any ho I.free (by simp)
 exact I.step (g':=s.gens) (d':=s.drawn) (ch:=[]) (λ _ z=>nomatch z) (λ b o _ hb _ e n=>u.keep b o e n hb (by simp)) (λ b o _ hb _ e n=>u.slot b o e n hb (by simp)) (λ b o _ e n=>u.free b o e n (by simp)) (λ b o _ e=>u.there b o e (by simp)) u.tups u.frzs u.tbls (λ m' hm=>by
  obtain ⟨o',es',ep',ho',r'⟩:=hm
  rw [ho] at ho'; cases ho'
  exact ⟨_,es',ep',hL,r'⟩) hok I.bare
theorem Inv.call {g':Array GenState}{t':Nat}{d':Drawn}{ch:List Addr}(I:Inv X pins σ H s)(u:Un (frs X.stack) ch H H' s.heap h')(hok:HOk X.prog X.w H' h')(hg:AllBare g')
  (hch:∀ b∈ch,(b∈X.ex\/X.s₀.heap.objs.size<=b)/\b≠X.env.locals/\(∀ x c,X.env.cells.lookup x=some c->c≠b)/\∀ p∈X.pn++pins,p.1≠b) :
  Inv X pins σ H' { s with heap:=h',gens:=g',drawn:=d',toks:=t' }:=by
 obtain ⟨m,⟨o,es,ep,ho,r⟩,_⟩:=id I.loc
 obtain ⟨sl,hL⟩:=u.any ho I.free λ z=>(hch _ z).2.1 rfl
 exact I.step (ch:=ch) hch (λ b o hL hb hc e n=>u.keep b o e n (λ z=>(List.mem_cons.mp (I.iO b z)).elim hL hb) hc) (λ b o _ _ hc e n=>u.any e n hc) (λ b o hc e n=>u.free b o e n hc) (λ b o hc e=>u.there b o e hc) u.tups u.frzs u.tbls (λ m' hm=>by
  obtain ⟨o',es',ep',ho',r'⟩:=hm
  rw [ho] at ho'; cases ho'
  exact ⟨_,es',ep',hL,r'⟩) hok hg
theorem Inv.turned {t':Nat}{it:Addr}(I:Inv X pins σ H s)(k:∀ b o,b≠it->s.heap.get? b=some o->h'.get? b=some o)(hn:H it=none)(hL:it≠X.env.locals)
  (h1:it∈X.ex\/X.s₀.heap.objs.size<=it)(h2:∀ x c,X.env.cells.lookup x=some c->c≠it)(h3:∀ p∈X.pn++pins,p.1≠it):Inv X pins σ H { s with heap:=h',toks:=t' }:=by
 have nit:∀ b u,H b=some u->b≠it:=λ b u e z=>by rw [z,hn] at e; cases e
 refine I.step (g':=s.gens) (d':=s.drawn) (ch:=[it]) (λ b hb=>?_) (λ b o _ _ hc e _=>k b o (λ z=>hc (by simp [z])) e) (λ b o _ _ hc e _=>⟨o.slots,k b o (λ z=>hc (by simp [z])) e⟩) (λ _ _ _ _ n=>n)
  (λ b o hc e=>⟨o,k b o (λ z=>hc (by simp [z])) e⟩) (λ _ _ e=>e) (λ _ _ _ e=>e) (λ b ps e=>⟨#[],by rw [e]; simp⟩) (λ m hm=>?_) (λ b u e=>?_) I.bare
 ·have e:b=it:=by simpa using hb
  subst e
  exact ⟨h1,hL,h2,h3⟩
 ·obtain ⟨o,es,ep,ho,r⟩:=hm
  exact ⟨o,es,ep,k _ o (Ne.symm hL) ho,r⟩
 ·refine (I.hok b u e).rL (λ c v hc q=>k c v ?_ q) (λ _ q=>q) λ _ _ q=>q
  rcases hc with z | z
  ·rw [z]; exact nit b u e
  ·exact nit c _ z
theorem Inv.tok (I:Inv X pins σ H s)(t:Nat):Inv X pins σ H { s with toks:=t }:=I.un (h':=s.heap) (t':=t) Un.refl I.hok
theorem Inv.kept {t':Nat}(I:Inv X pins σ H s)(k:∀ b u,s.heap.get? b=some u->h'.get? b=some u):Inv X pins σ H { s with heap:=h',toks:=t' }:=I.un (Un.kept k) (I.hok.kept k)
theorem Inv.laid {a:Addr}{o:HO}{t':Nat}(I:Inv X pins σ H s)(k:∀ b u,s.heap.get? b=some u->h'.get? b=some u)(hp:s.heap.objs.size<=a)(new:bX X.prog X.w (upd H a o) h' a o) :
  Inv X pins σ (upd H a o) { s with heap:=h',toks:=t' }:=I.un (Un.laid k hp (I.hok.fresh hp)) (I.hok.laid k hp new)
theorem Inv.write {x e:Addr}{o:HO}{t':Nat}(I:Inv X pins σ H s)(mu:Mut (H x))(he:e=x\/H e=some (.own x))(k:∀ b u,b≠e->s.heap.get? b=some u->h'.get? b=some u)(heo:∃ u,h'.get? e=some u)
  (new:bX X.prog X.w (upd H x o) h' x o):Inv X pins σ (upd H x o) { s with heap:=h',toks:=t' }:=I.un (Un.write mu he k heo) (I.hok.write mu he k heo new)
theorem Inv.ee {pins':List (Addr×Obj)}(I:Inv X pins σ H s)(h:∀ p∈pins',s.heap.get? p.1=some p.2/\H p.1=none/\p.1≠X.env.locals/\p.1 ∉ X.fs/\∀ v,p.2.data ≠ .cell v):Inv X pins' σ H s :=
 ⟨I.ok,I.os,I.bare,I.base,I.loc,I.cell,I.free,I.freeC,λ p hp=>(List.mem_append.mp hp).elim (λ z=>I.pin p (List.mem_append_left _ z)) (h p),I.hok,I.len⟩
theorem rT {N:List Str}(hN:N.Nodup){i j:Nat}{x:Str}(a:N[i]? = some x)(b:N[j]? = some x):i=j:=by
 obtain ⟨h1,e1⟩:=List.getElem?_eq_some_iff.mp a
 obtain ⟨h2,e2⟩:=List.getElem?_eq_some_iff.mp b
 exact (List.getElem_inj hN).mp (e1.trans e2.symm)
theorem wX {M:Model}{A:Around}{E:Value->Shared->Prop}{i:Nat}{x:Str}{v:V}{u:Value}{Q:Unit->Shared->Prop}(I:Inv X pins σ H s)(hN:X.N.Nodup)(hi:X.N[i]? = some x)(hx:Loc X.env.scope x)(r:RelV v u)
  (h:∀ s',Inv X pins (σ.set i (some v)) H s'->(∃ a,Heap.SameBut a s.heap s'.heap/\(a=X.env.locals\/X.env.cells.lookup x=some a))->Q () s')(hf:X.fn x=true\/X.env.scope.names.lookup x=some .local:=by first | exact .inl rfl | exact .inr rfl | assumption):wpAny M A (storeName X.env x u) Q E s:=by
 obtain ⟨m,hn,hl⟩:=id I.loc
 have hcls:(X.env.scope.kind == .class || (X.env.scope.kind == .module && X.env.locals != X.env.globals))=false:=by rw [I.ok.kind]; rfl
 have hiσ:i < σ.length:=by rw [I.len]; exact (List.getElem?_eq_some_iff.mp hi).1
 have cne:=I.cne
 have tracked:∀ {a:Addr} {h':Heap},(∃ o,s.heap.get? a=some o/\H a=none)->Heap.SameBut a s.heap h'->HOk X.prog X.w H h':=λ {a h'} ha hs b ob e=>by
  obtain ⟨_,_,hfree⟩:=ha
  refine (I.hok b ob e).rL (λ c w' hc q=>(hs.2 c ?_).trans q) (λ _ q=>q) λ _ _ q=>q
  rintro rfl
  rcases hc with rfl | hc
  ·rw [hfree] at e; cases e
  ·rw [hfree] at hc; cases hc
 rcases hx with hk | hk
 ·refine wpAny_storeName_local hk hn (λ h' hn' hs=>?_) hcls
  obtain ⟨oL,_,_,hoL,_⟩:=id hn
  refine h _ ⟨I.ok,I.os,I.bare,⟨λ b o e n hb hx=>?_,λ b o e n hb hx=>?_,I.base.free,λ b o e hx=>?_,I.base.tups,I.base.frzs,I.base.tbls⟩,⟨_,hn',λ j y v' e1 e2 e3=>?_⟩,λ y c e=>?_,I.free,I.freeC,λ p hp=>?_,tracked ⟨oL,hoL,I.free⟩ hs,by simpa using I.len⟩ ⟨_,hs,.inl rfl⟩
  ·exact (hs.2 b (Nat.ne_of_lt (Nat.lt_of_lt_of_le (Heap.lt_size e) I.ok.above))).trans (I.base.keep b o e n hb hx)
  ·obtain ⟨sl,e1⟩:=I.base.slot b o e n hb hx
   exact ⟨sl,(hs.2 b (Nat.ne_of_lt (Nat.lt_of_lt_of_le (Heap.lt_size e) I.ok.above))).trans e1⟩
  ·obtain ⟨o',e1⟩:=I.base.there b o e hx
   exact ⟨o',(hs.2 b (Nat.ne_of_lt (Nat.lt_of_lt_of_le (Heap.lt_size e) I.ok.above))).trans e1⟩
  ·by_cases hj:j=i
   ·subst hj
    rw [hi] at e1; cases e1
    rw [List.getElem?_set_self hiσ] at e2
    cases e2
    exact ⟨u,r,.inl ⟨hk,by simp⟩⟩
   ·rw [List.getElem?_set_ne (Ne.symm hj)] at e2
    obtain ⟨u',r',q⟩:=hl j y v' e1 e2 e3
    refine ⟨u',r',?_⟩
    rcases q with ⟨k,e⟩ | ⟨k,c,e,z⟩
    ·refine .inl ⟨k,?_⟩
     have:y≠x:=λ e=>hj (rT hN e1 (e ▸ hi))
     simp [this,e]
    ·exact .inr ⟨k,c,e,z.sameBut hs (cne y c e)⟩
  ·obtain ⟨w',z⟩:=I.cell y c e
   exact ⟨w',z.sameBut hs (cne y c e)⟩
  ·obtain ⟨e,n,ne,nf,d⟩:=I.pin p hp
   exact ⟨(hs.2 p.1 ne).trans e,n,ne,nf,d⟩
 ·have hfn:X.fn x=true:=by
   rcases hf with z | z
   ·exact z
   ·rw [z] at hk; cases hk
  obtain ⟨c,hc⟩:=I.ok.has x (.inl hk)
  obtain ⟨w',z⟩:=I.cell x c hc
  refine wpAny_storeName_cell I.ok.kind hk hc z (λ h' hc' hs=>?_)
  obtain ⟨oc,hoc,hocd⟩:=id z
  refine h { s with heap:=h' } ⟨I.ok,I.os,I.bare,⟨λ b o e n hb hx=>?_,λ b o e n hb hx=>?_,I.base.free,λ b o e hx=>?_,I.base.tups,I.base.frzs,I.base.tbls⟩,⟨m,hn.sameBut hs (Ne.symm (cne x c hc)),λ j y v' e1 e2 e3=>?_⟩,λ y c' e=>?_,I.free,I.freeC,λ p hp=>?_,tracked ⟨oc,hoc,I.freeC x c hc⟩ hs,by simpa using I.len⟩ ⟨c,hs,.inr hc⟩
  ·exact (hs.2 b (Nat.ne_of_lt (Nat.lt_of_lt_of_le (Heap.lt_size e) (I.ok.cab x c hfn hc)))).trans (I.base.keep b o e n hb hx)
  ·obtain ⟨sl,e1⟩:=I.base.slot b o e n hb hx
   exact ⟨sl,(hs.2 b (Nat.ne_of_lt (Nat.lt_of_lt_of_le (Heap.lt_size e) (I.ok.cab x c hfn hc)))).trans e1⟩
  ·obtain ⟨o',e1⟩:=I.base.there b o e hx
   exact ⟨o',(hs.2 b (Nat.ne_of_lt (Nat.lt_of_lt_of_le (Heap.lt_size e) (I.ok.cab x c hfn hc)))).trans e1⟩
  ·by_cases hj:j=i
   ·subst hj
    rw [hi] at e1; cases e1
    rw [List.getElem?_set_self hiσ] at e2
    cases e2
    exact ⟨u,r,.inr ⟨.inl hk,c,hc,hc'⟩⟩
   ·rw [List.getElem?_set_ne (Ne.symm hj)] at e2
    obtain ⟨u',r',q⟩:=hl j y v' e1 e2 e3
    refine ⟨u',r',?_⟩
    rcases q with q | ⟨k,c',e,z'⟩
    ·exact .inl q
    ·refine .inr ⟨k,c',e,z'.sameBut hs ?_⟩
     rintro rfl
     exact hj (rT hN e1 (I.ok.inj _ _ _ e hc ▸ hi))
  ·by_cases hcc:c'=c
   ·subst hcc; exact ⟨_,hc'⟩
   ·obtain ⟨w2,z2⟩:=I.cell y c' e
    exact ⟨w2,z2.sameBut hs hcc⟩
  ·obtain ⟨e,n,ne,nf,d⟩:=I.pin p hp
   refine ⟨(hs.2 p.1 ?_).trans e,n,ne,nf,d⟩
   intro q
   rw [q,hoc] at e
   have q':oc=p.2:=Option.some.inj e
   exact d w' (by rw [<- q']; exact hocd)
theorem nL {M:Model}{A:Around}{E:Value->Shared->Prop}{i:Nat}{x:Str}{v:V}{u:Value}{Q:Unit->Shared->Prop}(I:Inv X pins σ H s)(hN:X.N.Nodup)(hi:X.N[i]? = some x)(hx:Loc X.env.scope x)(r:RelV v u)
  (h:∀ s',Inv X pins (σ.set i (some v)) H s'->Q () s')(hf:X.fn x=true\/X.env.scope.names.lookup x=some .local:=by first | exact .inl rfl | exact .inr rfl | assumption):wpAny M A (storeName X.env x u) Q E s :=
 wX I hN hi hx r (λ s' I' _=>h s' I') hf
theorem Inv.abb {s':Shared}{ch:List Addr}(I:Inv X pins σ H s)(ho:s'.os=s.os)(u:Un (frs X.stack) ch H H' s.heap s'.heap)(hok:HOk X.prog X.w H' s'.heap)(hg:AllBare s'.gens)
  (hch:∀ b∈ch,(b∈X.ex\/X.s₀.heap.objs.size<=b)/\b≠X.env.locals/\(∀ x c,X.env.cells.lookup x=some c->c≠b)/\∀ p∈X.pn++pins,p.1≠b):Inv X pins σ H' s':=by
 obtain ⟨h',g',d',t',o'⟩:=s'
 have e:o'=s.os:=ho
 subst e
 exact I.call (g':=g') (t':=t') (d':=d') u hok hg hch
end
abbrev XK:=Value->Option Addr->Hp->Prop
abbrev St:=List (Option V)
abbrev VK:=V->Hp->Prop
abbrev TE:=St->Hp->VK->Prop
abbrev TT:=St->Hp->(Bool->Hp->Prop)->Prop
abbrev TA:=St->Hp->(List V->Hp->Prop)->Prop
structure Ends where
 nx:St->Hp->Prop
 rt:VK
 bk:St->Hp->Prop:=λ _ _=>False
 ct:St->Hp->Prop:=λ _ _=>False
abbrev TS:=Ends->St->Hp->Prop
def EP (X:Cx)(pins:List (Addr×Obj))(σ:St)(Q:VK)(u:Value)(s':Shared):Prop:=∃ v H',Inv X pins σ H' s'/\RelV v u/\Q v H'
def TP (X:Cx)(pins:List (Addr×Obj))(σ:St)(Q:Bool->Hp->Prop)(b:Bool)(s':Shared):Prop:=∃ H',Inv X pins σ H' s'/\Q b H'
def AP (X:Cx)(pins:List (Addr×Obj))(σ:St)(Q:List V->Hp->Prop)(us:List Value)(s':Shared):Prop:=∃ vs H',Inv X pins σ H' s'/\Vals vs us/\Q vs H'
def SP (X:Cx)(pins:List (Addr×Obj))(D:Ends)(f:Flow)(s':Shared):Prop :=
 match f with
 | .next=>∃ σ' H',Inv X pins σ' H' s'/\D.nx σ' H'
 | .brk=>∃ σ' H',Inv X pins σ' H' s'/\D.bk σ' H'
 | .cont=>∃ σ' H',Inv X pins σ' H' s'/\D.ct σ' H'
 | .ret u=>∃ v σ' H',Inv X pins σ' H' s'/\RelV v u/\D.rt v H'
def PE (X:Cx)(e:Expr)(t:TE):Prop :=
 ∀ (pins:List (Addr×Obj)) (s:Shared) (σ:St) (H:Hp) (Q:VK),Inv X pins σ H s->t σ H Q->wpAny (model X.prog X.w) X.A (eval e X.env) (EP X pins σ Q) X.xe s
def PT (X:Cx)(e:Expr)(t:TT):Prop :=
 ∀ (pins:List (Addr×Obj)) (s:Shared) (σ:St) (H:Hp) (Q:Bool->Hp->Prop),Inv X pins σ H s->t σ H Q->wpAny (model X.prog X.w) X.A (isTrue e X.env (eval e X.env)) (TP X pins σ Q) X.xe s
def PW (X:Cx)(e:Expr)(t:TT):Prop :=
 ∀ (whole:Sem Value) (pins:List (Addr×Obj)) (s:Shared) (σ:St) (H:Hp) (Q:Bool->Hp->Prop),Inv X pins σ H s->t σ H Q->wpAny (model X.prog X.w) X.A (isTrue e X.env whole) (TP X pins σ Q) X.xe s
theorem PW.pt {X:Cx}{e:Expr}{t:TT}(h:PW X e t):PT X e t:=h _
def PA (X:Cx)(es:List Expr)(t:TA):Prop :=
 ∀ (pos:Pos) (pins:List (Addr×Obj)) (s:Shared) (σ:St) (H:Hp) (Q:List V->Hp->Prop),Inv X pins σ H s->t σ H Q->wpAny (model X.prog X.w) X.A (spliced (backTo pos (starEach es X.env))) (AP X pins σ Q) X.xe s
def PS (X:Cx)(st:Stmt)(t:TS):Prop :=
 ∀ (pins:List (Addr×Obj)) (s:Shared) (σ:St) (H:Hp) (D:Ends),Inv X pins σ H s->t D σ H->wpAny (model X.prog X.w) X.A (exec st X.env) (SP X pins D) X.xe s
def PSs (X:Cx)(st:List Stmt)(t:TS):Prop :=
 ∀ (pins:List (Addr×Obj)) (s:Shared) (σ:St) (H:Hp) (D:Ends),Inv X pins σ H s->t D σ H->wpAny (model X.prog X.w) X.A (execs st X.env) (SP X pins D) X.xe s
theorem thn {α:Type}{t:Sem α}{Q Q':α->Shared->Prop}{M:Model}{A:Around}{E:Value->Shared->Prop}{s:Shared}(h:wpAny M A t Q E s)(hQ:∀ a s,Q a s->Q' a s):wpAny M A t Q' E s:=wpAny_mono h hQ λ _ _ x=>x
end L2
namespace L2
open PySem PySem.Spec PyProof.Rows
section
variable {X:Cx}
def ag0 (i:Nat):TE:=λ σ H Q=>∃ v,σ[i]? = some (some v)/\Q v H
def tC (v:V):TE:=λ _ H Q=>Q v H
theorem xX {i:Nat}{x:Str}{pos:Pos}(hN:X.N[i]? = some x)(hv:Vis X.env.scope x)(hd:(x == ("__debug__" : Str))=false:=by decide)(hcd:(x == ("__classdict__" : Str))=false:=by decide):PE X (.Name x pos) (ag0 i):=by
 intro pins s σ H Q I h
 obtain ⟨v,e,h⟩:=h
 obtain ⟨m,hn,hl⟩:=I.loc
 obtain ⟨u,r,l⟩:=hl i x v hN e hv
 have fin:EP X pins σ Q u s:=⟨v,H,I,r,h⟩
 rcases l with ⟨hk,hm⟩ | ⟨hk,c,hc,hcell⟩
 ·exact wpAny_Name (wpAny_loadName_local I.ok.kind hk hn hm fin) hd
 ·rcases hk with hk | hk
  ·exact wpAny_Name (wpAny_loadName_cell I.ok.kind hk hc hcell fin) hd
  ·exact wpAny_Name (wpAny_loadName_free I.ok.kind hk hc hcell fin hcd) hd
theorem adE {i j pos}:PE X (.Constant (.int i) j pos) (tC (.int i)):=λ _ _ _ H _ I h=>wpAny_Constant_int ⟨.int i,H,I.tok _,⟨_,rfl⟩,h⟩
theorem afx {b j pos}:PE X (.Constant (.bool b) j pos) (tC (.bl b)):=λ _ _ _ H _ I h=>Constant_bool ⟨.bl b,H,I,rfl,h⟩
theorem aeD {j pos}:PE X (.Constant .none j pos) (tC .non):=λ _ _ _ H _ I h=>Constant_none ⟨.non,H,I,rfl,h⟩
theorem acZ {x j pos}:PE X (.Constant (.str x) j pos) (tC (.str x)):=λ _ _ _ H _ I h=>Calls.Constant_str ⟨.str x,H,I.tok _,⟨_,rfl⟩,h⟩
def Gl (X:Cx)(x:Str):Prop:=X.env.kindOf x=some .globalImplicit
theorem gB {E:Value->Shared->Prop}{pins:List (Addr×Obj)}{s:Shared}{σ:St}{H:Hp}{x:Str}{u:Value}{pos:Pos}{Q:Value->Shared->Prop}(I:Inv X pins σ H s)(hg:Gl X x)(hm:X.mg x=some u)(h:Q u s)
  (hd:(x == ("__debug__" : Str))=false:=by decide):wpAny (model X.prog X.w) X.A (eval (.Name x pos) X.env) Q E s :=
 Calls.Name_function_global I.ok.kind hg (Calls.loadGlobal_global (by rw [I.ok.glob]; exact I.mod.glob.keeps I.bk) hm h) hd
theorem lN {E:Value->Shared->Prop}{pins:List (Addr×Obj)}{s:Shared}{σ:St}{H:Hp}{x:Str}{u:Value}{pos:Pos}{Q:Value->Shared->Prop}(I:Inv X pins σ H s)(hg:Gl X x)(hm:X.mg x=none)(hv:bootBuiltins x=some u)(h:Q u s)
  (hn:x ≠ "__name__" := by decide)(hd:(x == ("__debug__" : Str))=false:=by decide):wpAny (model X.prog X.w) X.A (eval (.Name x pos) X.env) Q E s:=by
 obtain ⟨mb,h1,h2⟩:=I.mod.blt
 exact Calls.Name_function_global I.ok.kind hg (Calls.loadGlobal_builtin (by rw [I.ok.glob]; exact I.mod.glob.keeps I.bk) hm (by rw [I.ok.blt]; exact h1.keeps I.bk) ((h2 x hn).trans hv) h) hd
theorem rF {x:Str}{v:V}{u:Value}{pos:Pos}(hg:Gl X x)(hm:X.mg x=some u)(r:RelV v u)(hd:(x == ("__debug__" : Str))=false:=by decide):PE X (.Name x pos) (tC v) :=
 λ _ _ _ H _ I h=>gB I hg hm ⟨v,H,I,r,h⟩ hd
theorem yj {x:Str}{v:V}{u:Value}{pos:Pos}(hg:Gl X x)(hm:X.mg x=none)(hv:bootBuiltins x=some u)(r:RelV v u)(hn:x ≠ "__name__" := by decide)(hd:(x == ("__debug__" : Str))=false:=by decide):PE X (.Name x pos) (tC v) :=
 λ _ _ _ H _ I h=>lN I hg hm hv ⟨v,H,I,r,h⟩ hn hd
variable {a b:Expr}{ta tb:TE}{pos:Pos}
def PC (X:Cx)(op:CmpOp)(a b:Expr)(t:TE):Prop :=
 ∀ (pins:List (Addr×Obj)) (s:Shared) (σ:St) (H:Hp) (Q:VK),Inv X pins σ H s->t σ H Q ->
  wpAny (model X.prog X.w) X.A (eval a X.env) (λ v s₁=>wpAny (model X.prog X.w) X.A (eval b X.env) (λ u s₂=>wpAny (model X.prog X.w) X.A (compareOp op v u) (EP X pins σ Q) X.xe s₂) X.xe s₁) X.xe s
theorem ia (b:Expr){op:CmpOp}(h:op ≠ .In)(h2:op ≠ .NotIn):behindInMarks op b=false:=by
 have e1:(op == CmpOp.In)=false:=by cases op <;> first | rfl | exact absurd rfl h
 have e2:(op == CmpOp.NotIn)=false:=by cases op <;> first | rfl | exact absurd rfl h2
 cases b <;> simp [behindInMarks,e1,e2]
def tB (t:TE):TT:=λ σ H Q=>t σ H λ x H1=>∃ c,x=.bl c/\Q c H1
theorem aar {op:CmpOp}{t:TE}(h:PC X op a b t)(h1:behindInMarks op b=false:=by first | exact ia _ (by decide) (by decide) | rfl):PT X (.Compare a [op] [b] pos) (tB t):=by
 intro pins s σ H Q I hw
 refine wpAny_isTrue_Compare1 (thn (h pins s σ H _ I hw) λ v s1 h1=>thn h1 λ u s2 h2=>thn h2 λ c s3 ⟨x,H1,I1,r1,q1⟩=>?_) h1
 obtain ⟨d,rfl,q⟩:=q1
 cases r1
 exact wpAny_truthy_bool ⟨H1,I1,q⟩
theorem ad2 {e:Expr}{t:TE}(h:PE X e t)(he:∀ whole,isTrue e X.env whole=(do let v <- whole; standAt e.pos; holding [v] (truthy v)):=by intro _; rfl):PT X e (tB t):=by
 intro pins s σ H Q I hw
 refine isTrue_plain (thn (h pins s σ H _ I hw) λ v s1 ⟨x,H1,I1,r1,q1⟩=>?_) (he _)
 obtain ⟨d,rfl,q⟩:=q1
 cases r1
 exact wpAny_truthy_bool ⟨H1,I1,q⟩
variable {tA tB':TT}{rest:List Expr}
def ahm (t u:TT):TT:=λ σ H Q=>t σ H λ c H1=>if c=true then u σ H1 Q else Q false H1
def tOr (t u:TT):TT:=λ σ H Q=>t σ H λ c H1=>if c=true then Q true H1 else u σ H1 Q
def ahu (t:TT):TT:=λ σ H Q=>t σ H λ c H1=>Q (!c) H1
theorem pw_and1 (ha:PT X a tA):PW X (.BoolOp .And [a] pos) tA:=by
 intro wh pins s σ H Q I h
 refine isTrue_and (thn (ha pins s σ H Q I h) λ c s1 e=>?_)
 cases c with
 | true=>exact isTrue_and_nil e
 | false=>exact e
theorem pw_or1 (ha:PT X a tA):PW X (.BoolOp .Or [a] pos) tA:=by
 intro wh pins s σ H Q I h
 refine isTrue_or (thn (ha pins s σ H Q I h) λ c s1 e=>?_)
 cases c with
 | false=>exact isTrue_or_nil e
 | true=>exact e
theorem pw_and (ha:PT X a tA)(hb:PW X (.BoolOp .And (b :: rest) pos) tB'):PW X (.BoolOp .And (a :: b :: rest) pos) (ahm tA tB'):=by
 intro wh pins s σ H Q I h
 refine isTrue_and (thn (ha pins s σ H _ I h) λ c s1 hq1=>?_)
 obtain ⟨H1,I1,q1⟩:=hq1
 cases c with
 | true=>exact hb wh pins s1 σ H1 Q I1 q1
 | false=>exact ⟨H1,I1,q1⟩
theorem pw_or (ha:PT X a tA)(hb:PW X (.BoolOp .Or (b :: rest) pos) tB'):PW X (.BoolOp .Or (a :: b :: rest) pos) (tOr tA tB'):=by
 intro wh pins s σ H Q I h
 refine isTrue_or (thn (ha pins s σ H _ I h) λ c s1 hq2=>?_)
 obtain ⟨H1,I1,q1⟩:=hq2
 cases c with
 | true=>exact ⟨H1,I1,q1⟩
 | false=>exact hb wh pins s1 σ H1 Q I1 q1
theorem ae1 (ha:PT X a tA):PT X (.UnaryOp .Not a pos) (ahu tA):=by
 intro pins s σ H Q I h
 exact isTrue_not (ha pins s σ H (λ c H1=>Q (!c) H1) I h)
def afB (ta tb:TE):TE:=λ σ H Q=>ta σ H λ x H1=>∃ c,x=.bl c/\if c=true then tb σ H1 Q else Q (.bl false) H1
def aga (ta:TE):TE:=λ σ H Q=>ta σ H λ x H1=>∃ c,x=.bl c/\Q (.bl (!c)) H1
theorem ad7 {op}{t:TE}(h:PE X a t):PE X (.BoolOp op [a] pos) t:=λ pins s σ H Q I hw=>BoolOp_one (h pins s σ H Q I hw)
theorem aeP (ha:PE X a ta)(hb:PE X (.BoolOp .And (b :: rest) pos) tb):PE X (.BoolOp .And (a :: b :: rest) pos) (afB ta tb):=by
 intro pins s σ H Q I h
 refine BoolOp_and (thn (ha pins s σ H _ I h) λ v s1 hq3=>?_)
 obtain ⟨x,H1,I1,r1,q1⟩:=hq3
 obtain ⟨c,rfl,q1⟩:=q1
 cases r1
 refine wpAny_truthy_bool ?_
 cases c with
 | true=>exact hb pins s1 σ H1 Q I1 q1
 | false=>exact ⟨.bl false,H1,I1,rfl,q1⟩
theorem ad4 (ha:PE X a ta):PE X (.UnaryOp .Not a pos) (aga ta):=by
 intro pins s σ H Q I h
 refine UnaryOp_ (thn (ha pins s σ H _ I h) λ v s1 hq4=>?_)
 obtain ⟨x,H1,I1,r1,q1⟩:=hq4
 obtain ⟨c,rfl,q1⟩:=q1
 cases r1
 exact not_of (wpAny_truthy_bool ⟨.bl (!c),H1,I1,rfl,q1⟩)
end
end L2
namespace L2
open PySem PySem.Spec PyProof.Rows
def SqL (K:PySem.W.Frag)(H:Hp)(a:Addr)(xs:List V):Prop :=
 Rd H a (.lst xs) \/
  ∃ (o:Obj) (its:Array Value) (n:Nat),K.lookup a=some o/\o.cls=.type "list" /\ o.dict=none/\o.data=.seq its n/\its.size<=sizeLine/\Vals xs its.toList
def SqT (K:PySem.W.Frag)(H:Hp)(a:Addr)(xs:List V):Prop :=
 Rd H a (.tup xs) \/
  ∃ (o:Obj) (its:Array Value) (n:Nat),K.lookup a=some o/\o.cls=.type "tuple" /\ o.dict=none/\o.data=.seq its n/\its.size<=sizeLine/\Vals xs its.toList
def ahD:Value->Option V
 | .none=>some .non
 | .bool b=>some (.bl b)
 | .int i _=>some (.int i)
 | .str x _=>some (.str x)
 | .bytes b _=>some (.byt b)
 | .float b _=>some (.flt b)
 | .ref a=>some (.ref a)
 | .type n=>some (.ty n)
 | _=>none
theorem RelV.abs {x:V}{u:Value}(r:RelV x u):ahD u=some x:=by
 cases x with
 | non=>cases r; rfl
 | bl _=>cases r; rfl
 | int _=>obtain ⟨t,rfl⟩:=r; rfl
 | str _=>obtain ⟨t,rfl⟩:=r; rfl
 | byt _=>obtain ⟨t,rfl⟩:=r; rfl
 | flt _=>obtain ⟨t,rfl⟩:=r; rfl
 | ref _=>cases r; rfl
 | ty _=>cases r; rfl
theorem RelV.inj {x y:V}{u:Value}(r:RelV x u)(q:RelV y u):x=y:=Option.some.inj (r.abs.symm.trans q.abs)
theorem Vals.inj:∀ {xs ys:List V} {us:List Value},Vals xs us->Vals ys us->xs=ys
 | _,_,_,.nil,.nil=>rfl
 | _,_,_,.cons r t,.cons r' t'=>by rw [r.inj r',Vals.inj t t']
section
variable {X:Cx}{pins:List (Addr×Obj)}{σ:St}{H:Hp}{s:Shared}{a:Addr}{xs ys:List V}
theorem SqL.of {K:PySem.W.Frag}(h:H a=some (.lst xs)):SqL K H a xs:=.inl (.inl h)
theorem Inv.list (I:Inv X pins σ H s)(h:SqL X.K H a xs):∃ its:List Value,Vals xs its/\PlainL s.heap a its.toArray/\xs.length<=sizeLine:=by
 rcases h with h | ⟨o,its,n,hk,hc,hd,hs,hz,r⟩
 ·obtain ⟨z,its,n,r,e⟩:=h.ok I.hok
  exact ⟨its,r,⟨_,n,e,rfl,rfl,rfl⟩,z⟩
 ·refine ⟨its.toList,r,⟨o,n,I.kIn a o hk,hc,hd,by simpa using hs⟩,?_⟩
  have e:=r.length
  simp only [Array.length_toList] at e
  omega
theorem Inv.agW (I:Inv X pins σ H s)(h:SqT X.K H a xs):∃ its:List Value,Vals xs its/\aaH s.heap a its.toArray/\xs.length<=sizeLine:=by
 rcases h with h | ⟨o,its,n,hk,hc,hd,hs,hz,r⟩
 ·obtain ⟨z,its,r,p⟩:=h.ok I.hok
  exact ⟨its,r,p,z⟩
 ·refine ⟨its.toList,r,⟨o,I.kIn a o hk,hc,hd,n,by simpa using hs⟩,?_⟩
  have e:=r.length
  simp only [Array.length_toList] at e
  omega
theorem Inv.tuple (I:Inv X pins σ H s)(h:SqT X.K H a xs):∃ its:List Value,Vals xs its/\IsTup s.heap a its.toArray/\xs.length<=sizeLine:=by
 obtain ⟨its,r,p,z⟩:=I.agW h
 exact ⟨its,r,p.tup,z⟩
theorem Inv.tM (I:Inv X pins σ H s)(h:SqL X.K H a xs)(h':SqL X.K H a ys):xs=ys:=by
 obtain ⟨its,r,⟨o,n,e,_,_,d⟩,_⟩:=I.list h
 obtain ⟨its',r',⟨o',n',e',_,_,d'⟩,_⟩:=I.list h'
 rw [e] at e'; cases e'
 rw [d] at d'
 injection d' with d1 _
 have:its=its':=by simpa using congrArg Array.toList d1
 subst this
 exact r.inj r'
theorem Inv.vC (I:Inv X pins σ H s)(h:SqT X.K H a xs)(h':SqT X.K H a ys):xs=ys:=by
 obtain ⟨its,r,⟨o,e,_,n,d⟩,_⟩:=I.tuple h
 obtain ⟨its',r',⟨o',e',_,n',d'⟩,_⟩:=I.tuple h'
 rw [e] at e'; cases e'
 rw [d] at d'
 injection d' with d1 _
 have:its=its':=by simpa using congrArg Array.toList d1
 subst this
 exact r.inj r'
end
abbrev Cx.yt (X:Cx)(E:Value->Shared->Prop):Cx:={ X with xe:=E }
abbrev Cx.nox (X:Cx):Cx:=X.yt λ _ _=>False
theorem Cx.Ok.yt {X:Cx}(ok:X.Ok)(E:Value->Shared->Prop):(X.yt E).Ok :=
 ⟨ok.mod,ok.kind,ok.glob,ok.blt,ok.above,ok.inj,ok.has,ok.cab,ok.hd,ok.frames,ok.stk,ok.exf,ok.bs,ok.bsz,ok.noex,ok.exfs,ok.nN,ok.frf⟩
theorem Cx.Ok.iP {X:Cx}{E:Value->Shared->Prop}(ok:(X.yt E).Ok):X.Ok :=
 ⟨ok.mod,ok.kind,ok.glob,ok.blt,ok.above,ok.inj,ok.has,ok.cab,ok.hd,ok.frames,ok.stk,ok.exf,ok.bs,ok.bsz,ok.noex,ok.exfs,ok.nN,ok.frf⟩
section
variable {X:Cx}{pins:List (Addr×Obj)}{σ:St}{H:Hp}{s:Shared}{E:Value->Shared->Prop}
theorem Inv.yt (I:Inv X pins σ H s)(E:Value->Shared->Prop):Inv (X.yt E) pins σ H s:=⟨I.ok.yt E,I.os,I.bare,I.base,I.loc,I.cell,I.free,I.freeC,I.pin,I.hok,I.len⟩
theorem Inv.iP (I:Inv (X.yt E) pins σ H s):Inv X pins σ H s:=⟨I.ok.iP,I.os,I.bare,I.base,I.loc,I.cell,I.free,I.freeC,I.pin,I.hok,I.len⟩
theorem SP.iP {D:Ends}{f:Flow}{s':Shared}(h:SP (X.yt E) pins D f s'):SP X pins D f s':=by
 cases f with
 | next=>obtain ⟨σ',H',I,q⟩:=h; exact ⟨σ',H',I.iP,q⟩
 | brk=>obtain ⟨σ',H',I,q⟩:=h; exact ⟨σ',H',I.iP,q⟩
 | cont=>obtain ⟨σ',H',I,q⟩:=h; exact ⟨σ',H',I.iP,q⟩
 | ret u=>obtain ⟨v,σ',H',I,r,q⟩:=h; exact ⟨v,σ',H',I.iP,r,q⟩
theorem PSs.nox {st:List Stmt}{t:TS}(h:PSs X.nox st t):PSs X st t:=λ pins s σ H D I hw =>
 wpAny_mono (h pins s σ H D (I.yt _) hw) (λ _ _ q=>q.iP) λ _ _ z=>False.elim z
end
section
variable {X:Cx}{st:Stmt}{rest:List Stmt}{t u:TS}{e:Expr}{te:TE}{pos:Pos}
def afK:TS:=λ D σ H=>D.nx σ H
def ahv (t u:TS):TS:=λ D σ H=>t { D with nx:=u D } σ H
theorem abr:PSs X [] afK:=λ _ _ σ H _ I h=>wpAny_execs_nil ⟨σ,H,I,h⟩
theorem yL (h1:PS X st t)(h2:PSs X rest u):PSs X (st :: rest) (ahv t u):=by
 intro pins s σ H D I h
 refine wpAny_execs_cons (thn (h1 pins s σ H { D with nx:=u D } I h) λ f s1 q=>?_)
 cases f with
 | next =>
  obtain ⟨σ',H',I',q⟩:=q
  exact h2 pins s1 σ' H' D I' q
 | ret v=>exact q
 | brk=>exact q
 | cont=>exact q
theorem vR (h1:PS X st t):PSs X [st] t:=by
 intro pins s σ H D I h
 refine wpAny_execs_cons (thn (h1 pins s σ H D I h) λ f s1 q=>?_)
 cases f with
 | next=>exact wpAny_execs_nil q
 | ret v=>exact q
 | brk=>exact q
 | cont=>exact q
theorem Inv.quiet {pins:List (Addr×Obj)}{σ:St}{H:Hp}{s:Shared}(I:Inv X pins σ H s):interactive X.env=false:=by simp [interactive,I.ok.kind]
def afw (te:TE):TS:=λ D σ H=>te σ H λ _ H1=>D.nx σ H1
theorem abH (he:PE X e te)(hs:swapsWith e none pos.line X.env=pure false:=by rfl):PS X (.Expr e pos) (afw te):=by
 intro pins s σ H D I h
 exact wpAny_Expr_any (thn (he pins s σ H _ I h) λ v s1 ⟨x,H1,I1,r1,q1⟩=>⟨σ,H1,I1,q1⟩) I.quiet hs
def ahn (te:TE):TS:=λ D σ H=>te σ H D.rt
theorem ad9 (he:PE X e te):PS X (.Return (some e) pos) (ahn te):=by
 intro pins s σ H D I h
 exact wpAny_Return_some (thn (he pins s σ H _ I h) λ v s1 ⟨x,H1,I1,r1,q1⟩=>⟨x,σ,H1,I1,r1,q1⟩)
def ahz (c:TT)(t u:TS):TS:=λ D σ H=>c σ H λ b H1=>if b=true then t D σ H1 else u D σ H1
theorem afL {c:Expr}{a b:List Stmt}{tc:TT}(hc:PT X c tc)(ha:PSs X a t)(hb:PSs X b u):PS X (.If c a b pos) (ahz tc t u):=by
 intro pins s σ H D I h
 refine wpAny_If (thn (hc pins s σ H _ I h) λ d s1 hq5=>?_)
 obtain ⟨H1,I1,q1⟩:=hq5
 cases d with
 | true=>exact ha pins s1 σ H1 D I1 q1
 | false=>exact hb pins s1 σ H1 D I1 q1
end
abbrev TG:=V->St->Hp->(St->Hp->Prop)->Prop
abbrev TGs:=List V->St->Hp->(St->Hp->Prop)->Prop
def PG (X:Cx)(target:Expr)(t:TG):Prop :=
 ∀ (pins:List (Addr×Obj)) (s:Shared) (σ:St) (H:Hp) (v:V) (u:Value) (Q:St->Hp->Prop),Inv X pins σ H s->RelV v u->t v σ H Q ->
  wpAny (model X.prog X.w) X.A (assign target X.env u) (λ _ s'=>∃ σ' H',Inv X pins σ' H' s'/\Q σ' H') X.xe s
def PGs (X:Cx)(ts:List Expr)(t:TGs):Prop :=
 ∀ (pins:List (Addr×Obj)) (s:Shared) (σ:St) (H:Hp) (vs:List V) (us:List Value) (Q:St->Hp->Prop),Inv X pins σ H s->Vals vs us->t vs σ H Q ->
  wpAny (model X.prog X.w) X.A (assignInOrder ((assignEach ts X.env).map (·.2)) us) (λ _ s'=>∃ σ' H',Inv X pins σ' H' s'/\Q σ' H') X.xe s
abbrev aet:=V->V->V->Hp->(Hp->Prop)->Prop
def afi (X:Cx)(t:aet):Prop :=
 ∀ (pins:List (Addr×Obj)) (s:Shared) (σ:St) (H:Hp) (o i v:V) (ov iv u:Value) (Q:Hp->Prop),Inv X pins σ H s->RelV o ov->RelV i iv->RelV v u->t o i v H Q ->
  wpAny (model X.prog X.w) X.A (setItem ov iv u) (λ _ s'=>∃ H',Inv X pins σ H' s'/\Q H') X.xe s
abbrev TIp:=V->V->Hp->VK->Prop
def PIp (X:Cx)(op:Operator)(t:TIp):Prop :=
 ∀ (pins:List (Addr×Obj)) (s:Shared) (σ:St) (H:Hp) (x y:V) (v u:Value) (Q:VK),Inv X pins σ H s->RelV x v->RelV y u->t x y H Q ->
  wpAny (model X.prog X.w) X.A (inplaceOp op v u) (EP X pins σ Q) X.xe s
section
variable {X:Cx}{pos:Pos}
def abx (i:Nat):TG:=λ v σ H Q=>Q (σ.set i (some v)) H
theorem xo {i:Nat}{x:Str}(hN:X.N.Nodup)(hi:X.N[i]? = some x)(hx:Loc X.env.scope x)(hf:X.fn x=true\/X.env.scope.names.lookup x=some .local:=by first | exact .inl rfl | exact .inr rfl | assumption):PG X (.Name x pos) (abx i):=by
 intro pins s σ H v u Q I r h
 exact wpAny_assign_Name (nL I hN hi hx r (λ s' I'=>⟨_,H,I',h⟩) hf)
def ag4:TGs:=λ vs σ H Q=>vs=[]/\Q σ H
def afy (t:TG)(u:TGs):TGs:=λ vs σ H Q=>∃ v r,vs=v :: r/\t v σ H λ σ' H'=>u r σ' H' Q
theorem ab8:PGs X [] ag4:=by
 intro pins s σ H vs us Q I r h
 obtain ⟨e,h⟩:=h
 subst e
 cases r
 exact assignInOrder_nil ⟨σ,H,I,h⟩
theorem yN {e:Expr}{es:List Expr}{t:TG}{u:TGs}(h1:PG X e t)(h2:PGs X es u)
  (hs:(assignEach (e :: es) X.env).map (·.2)=assign e X.env :: (assignEach es X.env).map (·.2):=by rfl):PGs X (e :: es) (afy t u):=by
 intro pins s σ H vs us Q I r h
 obtain ⟨v,vr,e1,h⟩:=h
 subst e1
 cases r with
 | cons r rr =>
  rw [hs]
  refine assignInOrder_cons (thn (h1 pins s σ H _ _ _ I r h) λ _ s1 hq6=>?_)
  obtain ⟨σ1,H1,I1,q1⟩:=hq6
  exact h2 pins s1 σ1 H1 _ _ Q I1 rr q1
def ahA (K:PySem.W.Frag)(n:Nat)(t:TGs):TG:=λ v σ H Q=>∃ a xs,v=.ref a/\SqT K H a xs/\xs.length=n/\t xs σ H Q
theorem adM {es:List Expr}{k:Nat}{t:TGs}{n:Nat}(hc:X.calm=true)(h:PGs X es t)
  (hn:(assignEach es X.env).length=n:=by rfl)(hst:(assignEach es X.env).findIdx? (·.1)=none:=by rfl):PG X (.Tuple es k pos) (ahA X.K n t):=by
 intro pins s σ H v u Q I r hw
 obtain ⟨a,xs,e1,hq,hl,hw⟩:=hw
 subst e1
 cases r
 obtain ⟨its,rv,ht,hz⟩:=I.tuple hq
 refine assign_Tuple_tuple (I.ok.hd hc) ht (by simp [hn,<- hl,rv.length]) hst λ h' hx=>?_
 have I1:Inv X pins σ H { s with heap:=h' }:=I.kept (t':=s.toks) λ b o e=>hx b o (Nat.ne_of_lt (Heap.lt_size e)) e
 exact h pins _ σ H xs _ Q I1 (by simpa using rv) hw
def ag9 (to ti:TE)(t:aet):TG:=λ v σ H Q=>to σ H λ o H1=>ti σ H1 λ i H2=>t o i v H2 λ H3=>Q σ H3
theorem ade {o i:Expr}{to ti:TE}{t:aet}(ho:PE X o to)(hi:PE X i ti)(hs:afi X t)
  (ha:∀ v,assign (.Subscript o i pos) X.env v=(do
   let ov <- holding [v] (eval o X.env)
   let iv <- holding [v,ov] (eval i X.env)
   standAt pos
   holding [v,ov,iv] (setItem ov iv v)
   release [v,ov,iv] []):=by intro _; rfl):PG X (.Subscript o i pos) (ag9 to ti t):=by
 intro pins s σ H v u Q I r h
 rw [ha]
 refine wpAny_bind (wpAny_holding (thn (ho pins s σ H _ I h) λ ov s1 hq7=>?_))
 obtain ⟨x,H1,I1,r1,q1⟩:=hq7
 refine wpAny_bind (wpAny_holding (thn (hi pins s1 σ H1 _ I1 q1) λ iv s2 hq8=>?_))
 obtain ⟨y,H2,I2,r2,q2⟩:=hq8
 refine wpAny_bind (wpAny_standAt (wpAny_bind (wpAny_holding (thn (hs pins s2 σ H2 x y v ov iv u _ I2 r1 r2 r q2) λ _ s3 hq9=>?_))))
 obtain ⟨H3,I3,q3⟩:=hq9
 exact wpAny_release ⟨σ,H3,I3,q3⟩
def aff (te:TE)(g:TG):TS:=λ D σ H=>te σ H λ x H1=>g x σ H1 D.nx
theorem adU {tg e:Expr}{te:TE}{g:TG}(he:PE X e te)(hg:PG X tg g)(hs:swapsWithSole [tg] e pos.line X.env=pure false:=by rfl)(hw:swappedStores [tg] e X.env=pure none:=by rfl)
  (h1:(assignEach [tg] X.env).map (·.2)=[assign tg X.env]:=by rfl):PS X (.Assign [tg] e pos) (aff te g):=by
 intro pins s σ H D I h
 refine wpAny_Assign_stores (thn (he pins s σ H _ I h) λ v s1 ⟨x,H1,I1,r1,q1⟩=>?_) hs hw
 rw [h1]
 exact thn (hg pins s1 σ H1 x v _ I1 r1 q1) λ _ s2 q=>q
theorem adW {i:Nat}{x:Str}{e:Expr}{te:TE}{pos':Pos}(hN:X.N.Nodup)(hi:X.N[i]? = some x)(hx:Loc X.env.scope x)(he:PE X e te)(hs:swapsWith e (some (.Name x pos')) pos.line X.env=pure false:=by rfl)(hf:X.fn x=true\/X.env.scope.names.lookup x=some .local:=by first | exact .inl rfl | exact .inr rfl | assumption) :
  PS X (.Assign [.Name x pos'] e pos) (aff te (abx i)):=by
 intro pins s σ H D I h
 refine wpAny_Assign_Name (thn (he pins s σ H _ I h) λ v s1 ⟨y,H1,I1,r1,q1⟩=>?_) hs
 exact nL I1 hN hi hx r1 (λ s2 I2=>⟨_,H1,I2,q1⟩) hf
def agy (to ti te:TE)(fq:V->V->Hp->VK->Prop)(tip:TIp)(tset:aet):TS:=λ D σ H=>to σ H λ o H1=>ti σ H1 λ i H2=>fq o i H2 λ x H3=>te σ H3 λ y H4=>tip x y H4 λ z H5=>tset o i z H5 λ H6=>D.nx σ H6
def afX (X:Cx)(t:V->V->Hp->VK->Prop):Prop :=
 ∀ (pins:List (Addr×Obj)) (s:Shared) (σ:St) (H:Hp) (o i:V) (ov iv:Value) (Q:VK),Inv X pins σ H s->RelV o ov->RelV i iv->t o i H Q ->
  wpAny (model X.prog X.w) X.A (getItem ov iv) (EP X pins σ Q) X.xe s
theorem vG {o i e:Expr}{to ti te:TE}{fq:V->V->Hp->VK->Prop}{tip:TIp}{tset:aet}{op:Operator}{tpos:Pos}(ho:PE X o to)(hi:PE X i ti)(hg:afX X fq)(he:PE X e te)(hp:PIp X op tip)(hs:afi X tset)
  (ha:∀ ov iv new,augStore i ov iv new=(do holding [new,ov,iv] (setItem ov iv new); release [new,ov,iv] []; pure .next):=by intros; rfl):PS X (.AugAssign (.Subscript o i tpos) op e pos) (agy to ti te fq tip tset):=by
 intro pins s σ H D I h
 refine wpAny_AugAssign_SubscriptAny (thn (ho pins s σ H _ I h) λ ov s1 ⟨x1,H1,I1,r1,q1⟩=>?_) ha
 refine thn (hi pins s1 σ H1 _ I1 q1) λ iv s2 hq10=>?_
 obtain ⟨x2,H2,I2,r2,q2⟩:=hq10
 refine thn (hg pins s2 σ H2 x1 x2 ov iv _ I2 r1 r2 q2) λ old s3 hq11=>?_
 obtain ⟨x3,H3,I3,r3,q3⟩:=hq11
 refine thn (he pins s3 σ H3 _ I3 q3) λ v s4 hq12=>?_
 obtain ⟨x4,H4,I4,r4,q4⟩:=hq12
 refine thn (hp pins s4 σ H4 x3 x4 old v _ I4 r3 r4 q4) λ new s5 hq13=>?_
 obtain ⟨x5,H5,I5,r5,q5⟩:=hq13
 exact thn (hs pins s5 σ H5 x1 x2 x5 ov iv new _ I5 r1 r2 r5 q5) λ _ s6 ⟨H6,I6,q6⟩=>⟨σ,H6,I6,q6⟩
def ipI (f:Int->Int->Int):TIp:=λ x y H Q=>∃ i j,x=.int i/\y=.int j/\Q (.int (f i j)) H
theorem tF:PIp X .Add (ipI λ i j=>i+j):=by
 intro pins s σ H x y v u Q I r1 r2 h
 obtain ⟨i,j,e1,e2,q⟩:=h
 subst e1; subst e2
 obtain ⟨t,rfl⟩:=r1
 obtain ⟨t',rfl⟩:=r2
 exact iadd_int ⟨.int _,H,I.tok _,⟨_,rfl⟩,q⟩
theorem adi:PIp X .Sub (ipI λ i j=>i - j):=by
 intro pins s σ H x y v u Q I r1 r2 h
 obtain ⟨i,j,e1,e2,q⟩:=h
 subst e1; subst e2
 obtain ⟨t,rfl⟩:=r1
 obtain ⟨t',rfl⟩:=r2
 exact isub_int ⟨.int _,H,I.tok _,⟨_,rfl⟩,q⟩
end
section
variable {X:Cx}{pos:Pos}
end
structure It where
 go:Nat->Hp->Prop
 yld:Nat->Hp->V->Hp->Prop
 stop:Nat->Hp->Prop
def kJ (X:Cx)(pins:List (Addr×Obj))(H:Hp)(b:Addr):Prop :=
 H b=none/\b≠X.env.locals/\b ∉ X.fs/\(b∈X.ex\/X.s₀.heap.objs.size<=b)/\(∀ x c,X.env.cells.lookup x=some c->c≠b)/\∀ p∈X.pn++pins,p.1≠b
theorem Inv.sy {X:Cx}{pins:List (Addr×Obj)}{σ:St}{H H':Hp}{s:Shared}{b:Addr}(I:Inv X pins σ H s)(hb:s.heap.objs.size<=b)(hn:H' b=none):kJ X pins H' b:=by
 refine ⟨hn,Nat.ne_of_gt (Nat.lt_of_lt_of_le I.lt hb),I.agJ hb,.inr (Nat.le_trans I.sz hb),λ x c e z=>?_,λ p hp z=>?_⟩
 ·obtain ⟨v,q⟩:=I.cell x c e
  exact absurd (Nat.lt_of_lt_of_le q.lt (by rw [z]; exact hb)) (Nat.lt_irrefl _)
 ·exact absurd (Nat.lt_of_lt_of_le (Heap.lt_size (I.pin p hp).1) (by rw [z]; exact hb)) (Nat.lt_irrefl _)
structure Turn (P:Program)(w:World)(K:PySem.W.Frag)(tg:Expr)(J:It)(fp:List Addr)(it:Addr)(tn:Nat->Heap->Prop):Prop where
 mem:it∈fp
 obj:∀ i h,tn i h->∀ b∈fp,∃ o,h.get? b=some o/\∀ v,o.data ≠ .cell v
 keep:∀ i h h',tn i h->(∀ b∈fp,∀ o,h.get? b=some o->h'.get? b=some o)->tn i h'
 item:∀ (X:Cx),X.prog=P->X.w=w->X.K=K->X.calm=true->∀ (i:Nat) (pins:List (Addr×Obj)) (s:Shared) (σ:St) (H:Hp) (E:Value->Shared->Prop),Inv X pins σ H s->(∀ b∈fp,kJ X pins H b)->tn i s.heap->J.go i H ->
  wpAny (model P w) X.A (pyNext (.ref it)) (λ r s1=>∃ u,r=some u /\
   wpAny (model P w) X.A (letOwnedTupleGo tg (.ref it) u) (λ _ s2=>∃ x H',Inv X pins σ H' s2/\RelV x u/\J.yld i H x H'/\tn (i+1) s2.heap/\∀ b∈fp,H' b=none) E s1) E s
 done:∀ (X:Cx),X.prog=P->X.w=w->X.K=K->X.calm=true->∀ (i:Nat) (pins:List (Addr×Obj)) (s:Shared) (σ:St) (H:Hp) (E:Value->Shared->Prop),Inv X pins σ H s->(∀ b∈fp,kJ X pins H b)->tn i s.heap->J.stop i H ->
  wpAny (model P w) X.A (pyNext (.ref it)) (λ r s1=>r=none/\Inv X pins σ H s1) E s
 self:∀ (A:Around) (i:Nat) (s:Shared) (Q:Value->Shared->Prop) (E:Value->Shared->Prop),tn i s.heap->Q (.ref it) s->wpAny (model P w) A (pyIter (.ref it)) Q E s
abbrev TI:=St->Hp->(It->Hp->Prop)->Prop
def PIE (X:Cx)(pins:List (Addr×Obj))(σ:St)(tg:Expr)(R:It->Hp->Prop)(itv:Value)(s2:Shared):Prop :=
 ∃ (it:Addr) (fp:List Addr) (tn:Nat->Heap->Prop) (J:It) (H':Hp),itv=.ref it/\Inv X pins σ H' s2/\Turn X.prog X.w X.K tg J fp it tn/\tn 0 s2.heap/\(∀ b∈fp,kJ X pins H' b)/\R J H'
def PI (X:Cx)(tg iter:Expr)(wi:TI):Prop :=
 ∀ (pins:List (Addr×Obj)) (s:Shared) (σ:St) (H:Hp) (R:It->Hp->Prop),Inv X pins σ H s->wi σ H R ->
  wpAny (model X.prog X.w) X.A (eval iter X.env) (λ v s1=>wpAny (model X.prog X.w) X.A (pyIter v) (PIE X pins σ tg R) X.xe s1) X.xe s
theorem xu {M:Model}{A:Around}{E:Value->Shared->Prop}{s:Shared}{tg:Expr}{it:Addr}{u:Value}{o:Obj}{n:String}{vs:Array Value}{Q:Unit->Shared->Prop}(ho:s.heap.get? it=some o)(hc:o.cls=.type n)(hd:o.data=.fields vs)
  (hn:["enumerate", "zip", "dict_itemiterator", "dict_reverseitemiterator", "odict_iterator", "itertools.zip_longest", "itertools.pairwise"].contains n=false)(hQ:Q () s):wpAny M A (letOwnedTupleGo tg (.ref it) u) Q E s:=by
 unfold letOwnedTupleGo
 cases tg <;> first
  | exact wpAny_pure hQ
  | (cases u <;> first
    | exact wpAny_pure hQ
    | (refine wpAny_bind (wpAny_load ho ?_)
       rw [hc,hd]
       show wpAny M A (if (["enumerate", "zip", "dict_itemiterator", "dict_reverseitemiterator", "odict_iterator", "itertools.zip_longest", "itertools.pairwise"].contains n && vs[0]? == some (rawInt _))=true then _ else _) Q E s
       rw [if_neg (by intro h; rw [hn,Bool.false_and] at h; cases h)]
       exact wpAny_pure hQ))
def Itl (K:PySem.W.Frag)(a:Addr):It :=
 ⟨λ i H=>∃ xs x,SqL K H a xs/\xs[i]? = some x,λ i H x H'=>H'=H/\∀ xs,SqL K H a xs->xs[i]? = some x,λ i H=>∃ xs,SqL K H a xs/\xs.length<=i⟩
def Itt (K:PySem.W.Frag)(a:Addr):It :=
 ⟨λ i H=>∃ xs x,SqT K H a xs/\xs[i]? = some x,λ i H x H'=>H'=H/\∀ xs,SqT K H a xs->xs[i]? = some x,λ i H=>∃ xs,SqT K H a xs/\xs.length<=i⟩
def Itr (lo:Int)(n:Nat):It:=⟨λ i _=>i < n,λ i H x H'=>H'=H/\x=.int (lo+i),λ i _=>n<=i⟩
theorem wY {P:Program}{w:World}{K:PySem.W.Frag}{tg:Expr}(a it:Addr):Turn P w K tg (Itl K a) [it] it (λ i h=>h.IsListIter it a i) where
 mem:=by simp
 obj:=λ i h st b hb=>by
  have e:b=it:=by simpa using hb
  subst e
  obtain ⟨o,e,c,d⟩:=st
  exact ⟨o,e,λ v z=>by rw [d] at z; cases z⟩
 keep:=λ i h h' st k=>st.at λ o e=>k it (by simp) o e
 item:=by
  intro X hP hw hK hc i pins s σ H E I hf st hg
  subst hP hw hK
  obtain ⟨xs,x,hq,hx⟩:=hg
  obtain ⟨its,rv,p,hz⟩:=I.list hq
  obtain ⟨u,hu,ru⟩:=rv.get hx
  obtain ⟨f0,f1,f2,f3,f4,f5⟩:=hf it (by simp)
  refine wpAny_pyNext_list_item st p.isList (x:=u) (by simpa using hu) λ h' st' sb=>?_
  have I1:Inv X pins σ H { s with heap:=h' }:=I.turned (t':=s.toks) (λ b o hb e=>(sb.2 b hb).trans e) f0 f1 f3 f4 f5
  obtain ⟨o,e,c,d⟩:=id st'
  exact ⟨u,rfl,xu (s:={ s with heap:=h' }) e c d (by decide) ⟨x,H,I1,ru,⟨rfl,λ ys hy=>by rw [I.tM hy hq]; exact hx⟩,st',λ b hb=>(hf b hb).1⟩⟩
 done:=by
  intro X hP hw hK hc i pins s σ H E I hf st hg
  subst hP hw hK
  obtain ⟨xs,hq,hx⟩:=hg
  obtain ⟨its,rv,p,hz⟩:=I.list hq
  obtain ⟨f0,f1,f2,f3,f4,f5⟩:=hf it (by simp)
  have hl:=rv.length
  exact wpAny_pyNext_list_end (I.ok.hd hc) st p.isList (by simp; omega) λ h' eb=>⟨rfl,I.turned (t':=s.toks) (λ b o hb e=>eb b o hb e) f0 f1 f3 f4 f5⟩
 self:=λ _ _ _ _ _ st h=>wpAny_pyIter_listiter st h
theorem ur {P:Program}{w:World}{K:PySem.W.Frag}{tg:Expr}(a it:Addr):Turn P w K tg (Itt K a) [it] it (λ i h=>h.IsTupleIter it a i) where
 mem:=by simp
 obj:=λ i h st b hb=>by
  have e:b=it:=by simpa using hb
  subst e
  obtain ⟨o,e,c,d⟩:=st
  exact ⟨o,e,λ v z=>by rw [d] at z; cases z⟩
 keep:=λ i h h' st k=>st.at λ o e=>k it (by simp) o e
 item:=by
  intro X hP hw hK hc i pins s σ H E I hf st hg
  subst hP hw hK
  obtain ⟨xs,x,hq,hx⟩:=hg
  obtain ⟨its,rv,p,hz⟩:=I.tuple hq
  obtain ⟨u,hu,ru⟩:=rv.get hx
  obtain ⟨f0,f1,f2,f3,f4,f5⟩:=hf it (by simp)
  refine wpAny_pyNext_tuple_item st (show s.heap.IsTuple a its.toArray from p) (x:=u) (by simpa using hu) λ h' st' sb=>?_
  have I1:Inv X pins σ H { s with heap:=h' }:=I.turned (t':=s.toks) (λ b o hb e=>(sb.2 b hb).trans e) f0 f1 f3 f4 f5
  obtain ⟨o,e,c,d⟩:=id st'
  exact ⟨u,rfl,xu (s:={ s with heap:=h' }) e c d (by decide) ⟨x,H,I1,ru,⟨rfl,λ ys hy=>by rw [I.vC hy hq]; exact hx⟩,st',λ b hb=>(hf b hb).1⟩⟩
 done:=by
  intro X hP hw hK hc i pins s σ H E I hf st hg
  subst hP hw hK
  obtain ⟨xs,hq,hx⟩:=hg
  obtain ⟨its,rv,p,hz⟩:=I.tuple hq
  obtain ⟨f0,f1,f2,f3,f4,f5⟩:=hf it (by simp)
  have hl:=rv.length
  exact wpAny_pyNext_tuple_end (I.ok.hd hc) st (show s.heap.IsTuple a its.toArray from p) (by simp; omega) λ h' eb=>⟨rfl,I.turned (t':=s.toks) (λ b o hb e=>eb b o hb e) f0 f1 f3 f4 f5⟩
 self:=λ _ _ _ _ _ st h=>wpAny_pyIter_tupleiter st h
theorem tX {P:Program}{w:World}{K:PySem.W.Frag}{tg:Expr}(it:Addr)(lo:Int)(n:Nat):Turn P w K tg (Itr lo n) [it] it (λ i h=>IsRangeIter h it (lo+(i:Nat) * 1) ((n:Int) - (i:Nat)) 1) where
 mem:=by simp
 obj:=λ i h st b hb=>by
  have e:b=it:=by simpa using hb
  subst e
  exact ⟨_,st,λ v z=>by
   have z':Data.fields _=Data.cell v:=z
   cases z'⟩
 keep:=λ i h h' st k=>k it (by simp) _ st
 item:=by
  intro X hP hw hK hc i pins s σ H E I hf st hg
  subst hP hw hK
  obtain ⟨f0,f1,f2,f3,f4,f5⟩:=hf it (by simp)
  have W:=Walks.range (prog:=X.prog) (w:=X.w) (I.ok.hd hc) it lo 1 n
  refine W.item i s _ _ hg st λ v h' tk hv st' kk=>?_
  obtain ⟨t,rfl⟩:=hv
  have I1:Inv X pins σ H { s with heap:=h',toks:=tk }:=I.turned (λ b o hb e=>kk b o (by simpa using hb) e) f0 f1 f3 f4 f5
  refine ⟨_,rfl,xu (s:={ s with heap:=h',toks:=tk }) (n := "range_iterator") st' rfl rfl (by decide) ⟨.int (lo+i),H,I1,⟨t,?_⟩,⟨rfl,rfl⟩,st',λ b hb=>(hf b hb).1⟩⟩
  rw [Int.mul_one]
 done:=by
  intro X hP hw hK hc i pins s σ H E I hf st hg
  subst hP hw hK
  obtain ⟨f0,f1,f2,f3,f4,f5⟩:=hf it (by simp)
  exact wpAny_pyNext_range_end (I.ok.hd hc) st (by have:n<=i:=hg; omega) λ h' eb=>⟨rfl,I.turned (t':=s.toks) (λ b o hb e=>eb b o hb e) f0 f1 f3 f4 f5⟩
 self:=λ _ _ _ _ _ st h=>wpAny_pyIter_rangeiter st h
end L2
namespace L2
open PySem PySem.Spec PyProof.Rows
section
variable {X:Cx}{tg:Expr}
theorem zI {pins:List (Addr×Obj)}{σ:St}{H:Hp}{s:Shared}{R:It->Hp->Prop}{E:Value->Shared->Prop}{lo hi:Int}{t u v:Tok}{tk:Nat}(I:Inv X pins σ H s)(h1:-(2 ^ 62)<=lo)(h2:lo < 2 ^ 62)(h3:-(2 ^ 62)<=hi)(h4:hi < 2 ^ 62)
  (q:R (Itr lo (hi - lo).toNat) H):wpAny (model X.prog X.w) X.A (pyIter (.ref s.heap.objs.size)) (PIE X pins σ tg R) E { s with heap:=s.heap.push { cls:=.type "range",data:=.fields #[.int lo t,.int hi u,.int 1 v] },toks:=tk }:=by
 refine wpAny_pyIter_range (IsRange.new ..) (small_one h1 h2 h3 h4) ?_
 have I1:Inv X pins σ H { s with heap:=s.heap.push { cls:=.type "range",data:=.fields #[.int lo t,.int hi u,.int 1 v] },toks:=tk }:=I.kept λ b o e=>Heap.get?_push_of_some _ e
 refine ⟨(s.heap.push { cls:=.type "range",data:=.fields #[.int lo t,.int hi u,.int 1 v] }).objs.size,[(s.heap.push { cls:=.type "range",data:=.fields #[.int lo t,.int hi u,.int 1 v] }).objs.size],_,_,H,rfl,
  I1.kept (t':=tk) λ b o e=>Heap.get?_push_of_some _ e,tX _ lo (hi - lo).toNat,?_,λ b hb=>?_,q⟩
 ·have e1:lo+((0:Nat):Int) * 1=lo:=by simp
  have e2:(((hi - lo).toNat:Nat):Int) - ((0:Nat):Int)=Builtin.Range.rangeSize lo hi 1:=by rw [rangeSize_one]; split <;> omega
  show IsRangeIter _ _ (lo+((0:Nat):Int) * 1) ((((hi - lo).toNat:Nat):Int) - ((0:Nat):Int)) 1
  rw [e1,e2]
  exact Heap.get?_push_size _ rfl
 ·have e:b=(s.heap.push { cls:=.type "range",data:=.fields #[.int lo t,.int hi u,.int 1 v] }).objs.size:=by simpa using hb
  subst e
  exact I1.sy (Nat.le_refl _) (I1.hok.fresh (Nat.le_refl _))
def afG (ta:TA):TI:=λ σ H R=>ta σ H λ vs H1=>∃ j:Int,vs=[.int j]/\-(2 ^ 62)<=j/\j < 2 ^ 62/\R (Itr 0 j.toNat) H1
theorem vy {a:Expr}{ta:TA}{p pos:Pos}(hg:Gl X "range")(hm:X.mg "range" = none)(ha:PA X [a] ta)(hs:starEach [a] X.env=[(false,eval a X.env)]:=by rfl):PI X tg (.Call (.Name "range" p) [a] [] pos) (afG ta):=by
 intro pins s σ H R I h
 refine Call_ (lN I hg hm boot_range (PyProof.Rows.callWith_type1 (thn (ha pos pins s σ H _ I h) λ us s1 ⟨vs,H1,I1,r1,q1⟩=>?_) hs rfl))
 obtain ⟨j,e,q1,q2,q⟩:=q1
 subst e
 cases r1 with
 | cons r rr =>
  cases rr
  obtain ⟨t,rfl⟩:=r
  exact call_range_1 (zI I1 (by omega) (by omega) q1 q2 (by simpa using q))
def ag8 (wi:TI)(g:TG)(tb:TS):TS:=λ D σ H=>wi σ H λ J H1=>∃ W:Nat->Nat->St->Hp->Prop,(∃ m,W 0 m σ H1)/\∀ i m σ H,W i m σ H ->
 (J.stop i H/\D.nx σ H)\/(J.go i H/\∃ N:St->Hp->Prop,(∀ σ' H',N σ' H'->∃ m',m' < m/\W (i+1) m' σ' H')/\∀ x H',J.yld i H x H'->g x σ H' λ σ2 H2=>tb { D with nx:=N,ct:=N,bk:=D.nx } σ2 H2)
def kj (fp:List Addr)(h:Heap):List (Addr×Obj):=fp.filterMap λ b=>(h.get? b).map λ o=>(b,o)
theorem dz {fp:List Addr}{h:Heap}{b:Addr}{o:Obj}(hb:b∈fp)(e:h.get? b=some o):(b,o)∈kj fp h:=List.mem_filterMap.mpr ⟨b,hb,by rw [e]; rfl⟩
theorem w5 {fp:List Addr}{h:Heap}{p:Addr×Obj}(hp:p∈kj fp h):p.1∈fp/\h.get? p.1=some p.2:=by
 obtain ⟨b,hb,e⟩:=List.mem_filterMap.mp hp
 cases q:h.get? b with
 | none=>rw [q] at e; cases e
 | some o =>
  rw [q] at e
  have e':(b,o)=p:=Option.some.inj e
  subst e'
  exact ⟨hb,q⟩
theorem Inv.pinned {pins:List (Addr×Obj)}{σ:St}{H:Hp}{s:Shared}{fp:List Addr}(I:Inv X pins σ H s)(hf:∀ b∈fp,kJ X pins H b)(ho:∀ b∈fp,∃ o,s.heap.get? b=some o/\∀ v,o.data ≠ .cell v):Inv X (pins++kj fp s.heap) σ H s :=
 I.ee λ p hp=>(List.mem_append.mp hp).elim (λ z=>I.pin p (List.mem_append_right _ z)) λ z=>by
  obtain ⟨hb,e⟩:=w5 z
  obtain ⟨f0,f1,f2,_⟩:=hf p.1 hb
  obtain ⟨o,e',d⟩:=ho p.1 hb
  rw [e] at e'; cases e'
  exact ⟨e,f0,f1,f2,d⟩
theorem Inv.jg {pins pl:List (Addr×Obj)}{σ:St}{H:Hp}{s:Shared}(I:Inv X (pins++pl) σ H s):Inv X pins σ H s:=I.ee λ p hp=>I.pin p (List.mem_append_right _ (List.mem_append_left _ hp))
theorem adJ {iter:Expr}{body:List Stmt}{wi:TI}{g:TG}{tb:TS}{pos:Pos}(hp:PassesOwn (model X.prog X.w) X.A X.env X.xe)(hc:X.calm=true)(hi:PI X tg iter wi)(hg:PG X tg g)(hb:PSs X body tb)
  (hs:∀ x,foldedSetIterable iter X.env x=pure x:=by intro _; rfl):PS X (.For tg iter body [] pos) (ag8 wi g tb):=by
 intro pins s σ H D I h
 refine wpAny_For (thn (hi pins s σ H _ I h) λ v s1 h1=>thn h1 λ itv s2 h2=>?_) hs
 obtain ⟨it,fp,tn,J,H2,e,I2,T,st2,f2,W,⟨m0,w0⟩,turn⟩:=h2
 subst e
 have stat:∀ {H':Hp},(∀ b∈fp,H' b=none)->∀ b∈fp,kJ X pins H' b:=λ hn b hb=>⟨hn b hb,(f2 b hb).2⟩
 refine codeAny_forLoop_any (λ n s'=>∃ i σ' H',Inv X pins σ' H' s'/\tn i s'.heap/\(∀ b∈fp,H' b=none)/\W i n σ' H') ?_ m0 ⟨0,σ,H2,I2,st2,λ b hb=>(f2 b hb).1,w0⟩
 rintro n s3 ⟨i,σ3,H3,I3,st3,fr3,w3⟩
 rcases turn i n σ3 H3 w3 with ⟨stop,qn⟩ | ⟨go,N,hN,step⟩
 ·refine wpAny_passesOwn hp (thn (T.done X rfl rfl rfl hc i pins s3 σ3 H3 X.xe I3 (stat fr3) st3 stop) λ r s4 ⟨hr,I4⟩=>?_)
  subst hr
  exact wpAny_execs_nil ⟨σ3,H3,I4,qn⟩
 ·refine wpAny_passesOwn hp (thn (T.item X rfl rfl rfl hc i pins s3 σ3 H3 X.xe I3 (stat fr3) st3 go) λ r s4 ⟨u,hr,h4⟩=>?_)
  subst hr
  refine wpAny_passesOwn hp (thn h4 λ _ s5 hq14=>?_)
  obtain ⟨x,H5,I5,r5,y5,st5,fr5⟩:=hq14
  have I5':=I5.pinned (stat fr5) (T.obj _ _ st5)
  refine wpAny_passesOwn hp (thn (hg _ s5 σ3 H5 x u _ I5' r5 (step x H5 y5)) λ _ s6 hq15=>?_)
  obtain ⟨σ6,H6,I6,q6⟩:=hq15
  refine wpAny_passesOwn hp (thn (hb _ s6 σ6 H6 _ I6 q6) λ f s7 q7=>?_)
  have again:∀ {σ7:St} {H7:Hp},Inv X (pins++kj fp s5.heap) σ7 H7 s7->N σ7 H7->∃ m,m < n/\∃ i σ' H',Inv X pins σ' H' s7/\tn i s7.heap/\(∀ b∈fp,H' b=none)/\W i m σ' H':=λ {σ7 H7} I7 n7=>by
   obtain ⟨m',hm,w7⟩:=hN σ7 H7 n7
   refine ⟨m',hm,i+1,σ7,H7,I7.jg,T.keep _ _ _ st5 λ b hb o e=>(I7.pin (b,o) (List.mem_append_right _ (List.mem_append_right _ (dz hb e)))).1,λ b hb=>?_,w7⟩
   obtain ⟨o,e,d⟩:=T.obj _ _ st5 b hb
   exact (I7.pin (b,o) (List.mem_append_right _ (List.mem_append_right _ (dz hb e)))).2.1
  cases f with
  | next=>obtain ⟨σ7,H7,I7,n7⟩:=q7; exact again I7 n7
  | cont=>obtain ⟨σ7,H7,I7,n7⟩:=q7; exact again I7 n7
  | brk=>obtain ⟨σ7,H7,I7,q7⟩:=q7; exact ⟨σ7,H7,I7.jg,q7⟩
  | ret v=>obtain ⟨x7,σ7,H7,I7,r7,q7⟩:=q7; exact ⟨x7,σ7,H7,I7.jg,r7,q7⟩
end
end L2
namespace L2
open PySem PySem.Spec PyProof.Rows
abbrev R2:=V->V->Hp->VK->Prop
def OpR (X:Cx)(f:Value->Value->Sem Value)(r:R2):Prop :=
 ∀ (pins:List (Addr×Obj)) (s:Shared) (σ:St) (H:Hp) (x y:V) (v u:Value) (Q:VK),Inv X pins σ H s->RelV x v->RelV y u->r x y H Q ->
  wpAny (model X.prog X.w) X.A (f v u) (EP X pins σ Q) X.xe s
def UnR (X:Cx)(f:Value->Sem Value)(r:V->Hp->VK->Prop):Prop :=
 ∀ (pins:List (Addr×Obj)) (s:Shared) (σ:St) (H:Hp) (x:V) (v:Value) (Q:VK),Inv X pins σ H s->RelV x v->r x H Q ->
  wpAny (model X.prog X.w) X.A (f v) (EP X pins σ Q) X.xe s
def dY (X:Cx)(f:Value)(r:List V->Hp->VK->Prop):Prop :=
 ∀ (pins:List (Addr×Obj)) (s:Shared) (σ:St) (H:Hp) (xs:List V) (us:List Value) (Q:VK),Inv X pins σ H s->Vals xs us->r xs H Q ->
  wpAny (model X.prog X.w) X.A (call f us) (EP X pins σ Q) X.xe s
def aha (X:Cx)(r:V->Hp->(Bool->Hp->Prop)->Prop):Prop :=
 ∀ (pins:List (Addr×Obj)) (s:Shared) (σ:St) (H:Hp) (x:V) (v:Value) (Q:Bool->Hp->Prop),Inv X pins σ H s->RelV x v->r x H Q ->
  wpAny (model X.prog X.w) X.A (truthy v) (TP X pins σ Q) X.xe s
def tOp (r:R2)(ta tb:TE):TE:=λ σ H Q=>ta σ H λ x H1=>tb σ H1 λ y H2=>r x y H2 Q
def tUn (r:V->Hp->VK->Prop)(ta:TE):TE:=λ σ H Q=>ta σ H λ x H1=>r x H1 Q
def rI (C:Int->Int->Prop)(g:Int->Int->V):R2:=λ x y H Q=>∃ i j,x=.int i/\y=.int j/\C i j/\Q (g i j) H
def rI0 (g:Int->Int->V):R2:=λ x y H Q=>∃ i j,x=.int i/\y=.int j/\Q (g i j) H
def rU (g:Int->V):V->Hp->VK->Prop:=λ x H Q=>∃ i,x=.int i/\Q (g i) H
section
variable {X:Cx}{a b c:Expr}{ta tb tc:TE}{pos:Pos}
theorem afV (ha:PE X a ta)(hb:PE X b tb){pins:List (Addr×Obj)}{s:Shared}{σ:St}{H:Hp}{R:V->V->Hp->Prop}(I:Inv X pins σ H s)
  (h:ta σ H λ x H1=>tb σ H1 λ y H2=>R x y H2){Q:Value->Shared->Prop}{f:Value->Value->Sem Value}
  (hf:∀ v u s2 x y H2,Inv X pins σ H2 s2->RelV x v->RelV y u->R x y H2->wpAny (model X.prog X.w) X.A (f v u) Q X.xe s2) :
  wpAny (model X.prog X.w) X.A (eval a X.env) (λ v s₁=>wpAny (model X.prog X.w) X.A (eval b X.env) (λ u s₂=>wpAny (model X.prog X.w) X.A (f v u) Q X.xe s₂) X.xe s₁) X.xe s:=by
 refine thn (ha pins s σ H _ I h) λ v s1 hq16=>?_
 obtain ⟨x,H1,I1,r1,q1⟩:=hq16
 refine thn (hb pins s1 σ H1 _ I1 q1) λ u s2 hq17=>?_
 obtain ⟨y,H2,I2,r2,q2⟩:=hq17
 exact hf v u s2 x y H2 I2 r1 r2 q2
theorem aeU {op:Operator}{r:R2}(ho:OpR X (binaryOp op) r)(ha:PE X a ta)(hb:PE X b tb):PE X (.BinOp a op b pos) (tOp r ta tb):=by
 intro pins s σ H Q I h
 exact wpAny_BinOp (afV ha hb I h λ v u s2 x y H2 I2 rx ry q=>ho pins s2 σ H2 x y v u Q I2 rx ry q)
theorem afP {op:UnaryOp}{r:V->Hp->VK->Prop}(ho:UnR X (unaryOp op) r)(ha:PE X a ta):PE X (.UnaryOp op a pos) (tUn r ta):=by
 intro pins s σ H Q I h
 exact UnaryOp_ (thn (ha pins s σ H _ I h) λ v s1 ⟨x,H1,I1,r1,q1⟩=>ho pins s1 σ H1 x v Q I1 r1 q1)
theorem opI {f:Value->Value->Sem Value}{C:Int->Int->Prop}{g:Int->Int->Int}
  (rule:∀ (i j:Int) (t u:Tok) (s:Shared) (Q:Value->Shared->Prop) (E:Value->Shared->Prop),C i j->Q (.int (g i j) s.toks) { s with toks:=s.toks+1 }->wpAny (model X.prog X.w) X.A (f (.int i t) (.int j u)) Q E s) :
  OpR X f (rI C λ i j=>.int (g i j)):=by
 intro pins s σ H x y v u Q I rx ry h
 obtain ⟨i,j,rfl,rfl,hc,q⟩:=h
 obtain ⟨t,rfl⟩:=rx
 obtain ⟨t',rfl⟩:=ry
 exact rule i j t t' s _ _ hc ⟨.int (g i j),H,I.tok _,⟨_,rfl⟩,q⟩
theorem ag1 {f:Value->Value->Sem Value}{g:Int->Int->Int}
  (rule:∀ (i j:Int) (t u:Tok) (s:Shared) (Q:Value->Shared->Prop) (E:Value->Shared->Prop),Q (.int (g i j) s.toks) { s with toks:=s.toks+1 }->wpAny (model X.prog X.w) X.A (f (.int i t) (.int j u)) Q E s) :
  OpR X f (rI0 λ i j=>.int (g i j)):=by
 intro pins s σ H x y v u Q I rx ry h
 obtain ⟨i,j,rfl,rfl,q⟩:=h
 obtain ⟨t,rfl⟩:=rx
 obtain ⟨t',rfl⟩:=ry
 exact rule i j t t' s _ _ ⟨.int (g i j),H,I.tok _,⟨_,rfl⟩,q⟩
theorem afd {f:Value->Value->Sem Value}{g:Int->Int->Bool}
  (rule:∀ (i j:Int) (t u:Tok) (s:Shared) (Q:Value->Shared->Prop) (E:Value->Shared->Prop),Q (.bool (g i j)) s->wpAny (model X.prog X.w) X.A (f (.int i t) (.int j u)) Q E s) :
  OpR X f (rI0 λ i j=>.bl (g i j)):=by
 intro pins s σ H x y v u Q I rx ry h
 obtain ⟨i,j,rfl,rfl,q⟩:=h
 obtain ⟨t,rfl⟩:=rx
 obtain ⟨t',rfl⟩:=ry
 exact rule i j t t' s _ _ ⟨.bl (g i j),H,I,rfl,q⟩
def agj (i j:Int):Prop:=0 < j/\j < 1073741824
def ae4 (i j:Int):Prop:=(-(2 ^ 64) < i/\i < 2 ^ 64)\/(-(2 ^ 64) < j/\j < 2 ^ 64)
theorem ae4.ok {i j:Int}(h:ae4 i j):IntMulOk i j:=by
 rcases h with ⟨h1,h2⟩ | ⟨h1,h2⟩
 ·exact .of_left (intBits_le_64 h1 h2)
 ·exact .of_right (intBits_le_64 h1 h2)
theorem adz:OpR X (binaryOp .Add) (rI0 λ i j=>.int (i+j)):=ag1 λ _ _ _ _ _ _ _ q=>add_int q
theorem wJ:OpR X (binaryOp .Sub) (rI0 λ i j=>.int (i - j)):=ag1 λ _ _ _ _ _ _ _ q=>sub_int q
theorem gW:OpR X (binaryOp .Mult) (rI ae4 λ i j=>.int (i * j)):=opI λ _ _ _ _ _ _ _ hc q=>mul_int q hc.ok
theorem ni:OpR X (binaryOp .FloorDiv) (rI agj λ i j=>.int (i / j)):=opI λ i j _ _ _ _ _ hc q=>by
 have h1:(0:Int) < j:=hc.1
 have h2:j < 1073741824:=hc.2
 exact floordiv_int (by omega) (by rw [Int.fdiv_eq_ediv_of_nonneg i (by omega)]; exact q) (.inl (PyProof.noPylong_small (by omega)))
theorem gj:OpR X (binaryOp .Mod) (rI (λ _ j=>0 < j) λ i j=>.int (i % j)):=opI λ i j _ _ _ _ _ hc q=>by
 have h1:(0:Int) < j:=hc
 exact mod_int' (by omega) (by rw [Int.fmod_eq_emod_of_nonneg i (by omega)]; exact q)
theorem unI {f:Value->Sem Value}{g:Int->Int}
  (rule:∀ (i:Int) (t:Tok) (s:Shared) (Q:Value->Shared->Prop) (E:Value->Shared->Prop),Q (.int (g i) s.toks) { s with toks:=s.toks+1 }->wpAny (model X.prog X.w) X.A (f (.int i t)) Q E s) :
  UnR X f (rU λ i=>.int (g i)):=by
 intro pins s σ H x v Q I rx h
 obtain ⟨i,rfl,q⟩:=h
 obtain ⟨t,rfl⟩:=rx
 exact rule i t s _ _ ⟨.int (g i),H,I.tok _,⟨_,rfl⟩,q⟩
theorem aao:UnR X (unaryOp .USub) (rU λ i=>.int (-i)):=unI λ _ _ _ _ _ q=>neg_int q
end
def agC:V->V->Bool
 | .non,.non=>true | .non,.int _=>true | .int _,.non=>true | .non,.bl _=>true | .bl _,.non=>true | .non,.str _=>true | .str _,.non=>true
 | .int _,.int _=>true | .bl _,.bl _=>true | .str _,.str _=>true | .byt _,.byt _=>true
 | .int _,.str _=>true | .str _,.int _=>true | .bl _,.str _=>true | .str _,.bl _=>true
 | _,_=>false
def rEq:R2:=λ x y H Q=>agC x y=true/\Q (.bl (decide (x=y))) H
def rNe:R2:=λ x y H Q=>agC x y=true/\Q (.bl (!decide (x=y))) H
theorem xZ {i j:Int}:decide (V.int i=V.int j)=(i == j):=by
 rw [Bool.eq_iff_iff]
 simp
theorem aaq {i j:Bool}:decide (V.bl i=V.bl j)=(i == j):=by
 rw [Bool.eq_iff_iff]
 simp
theorem wR {i j:Str}:decide (V.str i=V.str j)=(i == j):=by
 rw [Bool.eq_iff_iff]
 simp
theorem yg {i j:Array UInt8}:decide (V.byt i=V.byt j)=(i.toList == j.toList):=by
 rw [Bool.eq_iff_iff]
 cases i
 cases j
 simp
section
variable {X:Cx}{a b c:Expr}{ta tb tc:TE}{pos:Pos}
theorem bt {pins:List (Addr×Obj)}{σ:St}{H:Hp}{s:Shared}{Q:VK}{k k':Bool}(I:Inv X pins σ H s)(q:Q (.bl k) H)(e:k=k'):EP X pins σ Q (.bool k') s:=by
 subst e
 exact ⟨.bl k,H,I,rfl,q⟩
theorem afQ:OpR X (compareOp .Eq) rEq:=by
 intro pins s σ H x y v u Q I rx ry h
 obtain ⟨hs,q⟩:=h
 cases x with
 | non =>
  cases rx
  cases y with
  | non=>cases ry; exact PySem.EqNone.eq_none_none (bt I q (by simp))
  | bl j=>cases ry; exact PySem.EqNone.eq_none_bool (bt I q (by simp))
  | int j=>obtain ⟨t',rfl⟩:=ry; exact PySem.EqNone.eq_none_int (bt I q (by simp))
  | str j=>obtain ⟨t',rfl⟩:=ry; exact PySem.EqNone.eq_none_str (bt I q (by simp))
  | _=>exact absurd (show false=true from hs) Bool.false_ne_true
 | bl i =>
  cases rx
  cases y with
  | non=>cases ry; exact PySem.EqNone.eq_bool_none (bt I q (by simp))
  | bl j=>cases ry; exact eq_bool (bt I q aaq)
  | str j=>obtain ⟨t',rfl⟩:=ry; exact PySem.EqMixed.eq_bool_str (bt I q (by simp))
  | _=>exact absurd (show false=true from hs) Bool.false_ne_true
 | int i =>
  obtain ⟨t,rfl⟩:=rx
  cases y with
  | non=>cases ry; exact PySem.EqNone.eq_int_none (bt I q (by simp))
  | int j=>obtain ⟨t',rfl⟩:=ry; exact eq_int (bt I q xZ)
  | str j=>obtain ⟨t',rfl⟩:=ry; exact PySem.EqMixed.eq_int_str (bt I q (by simp))
  | _=>exact absurd (show false=true from hs) Bool.false_ne_true
 | str i =>
  obtain ⟨t,rfl⟩:=rx
  cases y with
  | non=>cases ry; exact PySem.EqNone.eq_str_none (bt I q (by simp))
  | bl j=>cases ry; exact PySem.EqMixed.eq_str_bool (bt I q (by simp))
  | int j=>obtain ⟨t',rfl⟩:=ry; exact PySem.EqMixed.eq_str_int (bt I q (by simp))
  | str j=>obtain ⟨t',rfl⟩:=ry; exact eq_str (bt I q wR)
  | _=>exact absurd (show false=true from hs) Bool.false_ne_true
 | byt i =>
  obtain ⟨t,rfl⟩:=rx
  cases y with
  | byt j=>obtain ⟨t',rfl⟩:=ry; exact PySem.W.eq_bytes (bt I q yg)
  | _=>exact absurd (show false=true from hs) Bool.false_ne_true
 | _=>cases y <;> exact absurd (show false=true from hs) Bool.false_ne_true
theorem ago:OpR X (compareOp .NotEq) rNe:=by
 intro pins s σ H x y v u Q I rx ry h
 obtain ⟨hs,q⟩:=h
 cases x with
 | non =>
  cases rx
  cases y with
  | non=>cases ry; exact PySem.EqNone.ne_none_none (bt I q (by simp))
  | bl j=>cases ry; exact PySem.EqNone.ne_none_bool (bt I q (by simp))
  | int j=>obtain ⟨t',rfl⟩:=ry; exact PySem.EqNone.ne_none_int (bt I q (by simp))
  | str j=>obtain ⟨t',rfl⟩:=ry; exact PySem.EqNone.ne_none_str (bt I q (by simp))
  | _=>exact absurd (show false=true from hs) Bool.false_ne_true
 | bl i =>
  cases rx
  cases y with
  | non=>cases ry; exact PySem.EqNone.ne_bool_none (bt I q (by simp))
  | bl j=>cases ry; exact ne_bool (bt I q (congrArg not aaq))
  | str j=>obtain ⟨t',rfl⟩:=ry; exact PySem.EqMixed.ne_bool_str (bt I q (by simp))
  | _=>exact absurd (show false=true from hs) Bool.false_ne_true
 | int i =>
  obtain ⟨t,rfl⟩:=rx
  cases y with
  | non=>cases ry; exact PySem.EqNone.ne_int_none (bt I q (by simp))
  | int j=>obtain ⟨t',rfl⟩:=ry; exact ne_int (bt I q (congrArg not xZ))
  | str j=>obtain ⟨t',rfl⟩:=ry; exact PySem.EqMixed.ne_int_str (bt I q (by simp))
  | _=>exact absurd (show false=true from hs) Bool.false_ne_true
 | str i =>
  obtain ⟨t,rfl⟩:=rx
  cases y with
  | non=>cases ry; exact PySem.EqNone.ne_str_none (bt I q (by simp))
  | bl j=>cases ry; exact PySem.EqMixed.ne_str_bool (bt I q (by simp))
  | int j=>obtain ⟨t',rfl⟩:=ry; exact PySem.EqMixed.ne_str_int (bt I q (by simp))
  | str j=>obtain ⟨t',rfl⟩:=ry; exact ne_str (bt I q (congrArg not wR))
  | _=>exact absurd (show false=true from hs) Bool.false_ne_true
 | byt i =>
  obtain ⟨t,rfl⟩:=rx
  cases y with
  | byt j=>obtain ⟨t',rfl⟩:=ry; exact PySem.W.ne_bytes (bt I q (congrArg not yg))
  | _=>exact absurd (show false=true from hs) Bool.false_ne_true
 | _=>cases y <;> exact absurd (show false=true from hs) Bool.false_ne_true
theorem acx:OpR X (compareOp .Lt) (rI0 λ i j=>.bl (decide (i < j))):=afd λ _ _ _ _ _ _ _ q=>lt_int q
theorem agn:OpR X (compareOp .LtE) (rI0 λ i j=>.bl (decide (i<=j))):=afd λ _ _ _ _ _ _ _ q=>le_int q
theorem yX:OpR X (compareOp .Gt) (rI0 λ i j=>.bl (decide (j < i))):=afd λ _ _ _ _ _ _ _ q=>gt_int q
theorem adH:OpR X (compareOp .GtE) (rI0 λ i j=>.bl (decide (j<=i))):=afd λ _ _ _ _ _ _ _ q=>ge_int q
theorem xk:OpR X (compareOp .Is) (λ x y H Q=>y=.non/\Q (.bl (decide (x=.non))) H):=by
 intro pins s σ H x y v u Q I rx ry h
 obtain ⟨rfl,q⟩:=h
 cases ry
 refine is_none_gen (bt I q ?_)
 cases x <;> first
  | (cases rx; rfl)
  | (obtain ⟨t,rfl⟩:=rx; rfl)
theorem aa9:OpR X (compareOp .IsNot) (λ x y H Q=>y=.non/\Q (.bl (!decide (x=.non))) H):=by
 intro pins s σ H x y v u Q I rx ry h
 obtain ⟨rfl,q⟩:=h
 cases ry
 refine isnot_none_gen (bt I q ?_)
 cases x <;> first
  | (cases rx; rfl)
  | (obtain ⟨t,rfl⟩:=rx; rfl)
theorem acu {op:CmpOp}{r:R2}(ho:OpR X (compareOp op) r)(ha:PE X a ta)(hb:PE X b tb)(hm:behindInMarks op b=false):PE X (.Compare a [op] [b] pos) (tOp r ta tb):=by
 intro pins s σ H Q I h
 exact wpAny_Compare1 (afV ha hb I h λ v u s2 x y H2 I2 rx ry q=>ho pins s2 σ H2 x y v u Q I2 rx ry q) hm
def aa5 (t:TE):TT:=λ σ H Q=>t σ H λ x H'=>∃ k,x=.bl k/\Q k H'
theorem ach {op:CmpOp}{r:R2}(ho:OpR X (compareOp op) r)(ha:PE X a ta)(hb:PE X b tb)(hm:behindInMarks op b=false):PT X (.Compare a [op] [b] pos) (aa5 (tOp r ta tb)):=by
 intro pins s σ H Q I h
 refine wpAny_isTrue_Compare1 (thn (ha pins s σ H _ I h) λ v s1 ⟨x,H1,I1,r1,q1⟩=>thn (hb pins s1 σ H1 _ I1 q1) λ u s2 ⟨y,H2,I2,r2,q2⟩ =>
  thn (ho pins s2 σ H2 x y v u _ I2 r1 r2 q2) λ c s3 ⟨z,H3,I3,r3,k,e,q3⟩=>?_) hm
 subst e
 cases r3
 exact wpAny_truthy_bool ⟨H3,I3,q3⟩
def vI (r r':R2)(ta tb tc:TE):TE:=λ σ H Q=>ta σ H λ x H1=>tb σ H1 λ y H2=>r x y H2 λ z H3=>∃ k,z=.bl k /\
 (if k=true then tc σ H3 λ w' H4=>r' y w' H4 Q else Q (.bl false) H3)
theorem yG {op op':CmpOp}{r r':R2}(ho:OpR X (compareOp op) r)(ho':OpR X (compareOp op') r')(ha:PE X a ta)(hb:PE X b tb)(hc:PE X c tc)
  (hm:lastMarks [op,op'] [b,c]=false:=by with_unfolding_all rfl):PE X (.Compare a [op,op'] [b,c] pos) (vI r r' ta tb tc):=by
 intro pins s σ H Q I h
 refine Compare_chain (thn (ha pins s σ H _ I h) λ v s1 ⟨x,H1,I1,r1,q1⟩=>chain_link (thn (hb pins s1 σ H1 _ I1 q1) λ u s2 ⟨y,H2,I2,r2,q2⟩ =>
  thn (ho pins s2 σ H2 x y v u _ I2 r1 r2 q2) λ d s3 ⟨z,H3,I3,r3,k,e,q3⟩=>?_)) hm
 subst e
 cases r3
 refine wpAny_truthy_bool ?_
 cases k with
 | false=>exact ite_ff ⟨.bl false,H3,I3,rfl,q3⟩
 | true=>exact ite_tt (chain_last (thn (hc pins s3 σ H3 _ I3 q3) λ w' s4 ⟨z',H4,I4,r4,q4⟩=>ho' pins s4 σ H4 y z' u w' Q I4 r2 r4 q4))
theorem zN {op op':CmpOp}{r r':R2}(ho:OpR X (compareOp op) r)(ho':OpR X (compareOp op') r')(ha:PE X a ta)(hb:PE X b tb)(hc:PE X c tc)
  (hm:lastMarks [op,op'] [b,c]=false:=by with_unfolding_all rfl):PT X (.Compare a [op,op'] [b,c] pos) (aa5 (vI r r' ta tb tc)):=by
 intro pins s σ H Q I h
 refine isTrue_chain (thn (ha pins s σ H _ I h) λ v s1 ⟨x,H1,I1,r1,q1⟩=>test_link (thn (hb pins s1 σ H1 _ I1 q1) λ u s2 ⟨y,H2,I2,r2,q2⟩ =>
  thn (ho pins s2 σ H2 x y v u _ I2 r1 r2 q2) λ d s3 ⟨z,H3,I3,r3,k,e,q3⟩=>?_)) hm
 subst e
 cases r3
 refine wpAny_truthy_bool ?_
 cases k with
 | false =>
  obtain ⟨k',e',q'⟩:=q3
  cases e'
  exact ite_ff ⟨H3,I3,q'⟩
 | true =>
  refine ite_tt (test_last (thn (hc pins s3 σ H3 _ I3 q3) λ w' s4 ⟨z',H4,I4,r4,q4⟩=>thn (ho' pins s4 σ H4 y z' u w' _ I4 r2 r4 q4) λ d' s5 hq18=>?_))
  obtain ⟨z2,H5,I5,r5,k2,e2,q5⟩:=hq18
  subst e2
  cases r5
  exact wpAny_truthy_bool ⟨H5,I5,q5⟩
def agc (K:PySem.W.Frag)(x:V)(H:Hp)(k:Bool):Prop :=
 match x with
 | .non=>k=false
 | .bl b=>k=b
 | .int i=>k=(i != 0)
 | .str y=>y.length<=sizeLine/\k=((y.length:Int) != 0)
 | .byt y=>y.size<=sizeLine/\k=((y.size:Int) != 0)
 | .ref p=>(∃ xs,SqL K H p xs/\k=!xs.isEmpty)\/(∃ xs,SqT K H p xs/\k=!xs.isEmpty)\/∃ kvs,H p=some (.dK kvs)/\k=!kvs.isEmpty
 | _=>False
theorem uK {κ:Type}{kvs:List (κ×V)}{vs:List (κ×Value)}(r:KV kvs vs):(!vs.isEmpty)=!kvs.isEmpty:=by
 cases r <;> rfl
theorem l4 {xs:List V}{its:List Value}(r:Vals xs its):(!its.toArray.isEmpty)=!xs.isEmpty:=by
 cases r <;> simp
theorem kh:(sizeLine:Nat) < 2 ^ 63:=by rw [sizeLine_eq]; decide
theorem ae7:aha X (λ x H Q=>∃ k,agc X.K x H k/\Q k H):=by
 intro pins s σ H x v Q I rx h
 obtain ⟨k,e,q⟩:=h
 have hl:=kh
 have hs:sizeLine=16777216:=sizeLine_eq
 cases x with
 | non =>
  cases rx
  have e':k=false:=e
  subst e'
  exact truthy_none ⟨H,I,q⟩
 | bl b =>
  cases rx
  have e':k=b:=e
  subst e'
  exact wpAny_truthy_bool ⟨H,I,q⟩
 | int i =>
  obtain ⟨t,rfl⟩:=rx
  have e':k=(i != 0):=e
  subst e'
  exact PySem.P.truthy_int ⟨H,I,q⟩
 | str y =>
  obtain ⟨t,rfl⟩:=rx
  obtain ⟨hy,e'⟩:y.length<=sizeLine/\k=((y.length:Int) != 0):=e
  subst e'
  exact PySem.P.truthy_str (by omega) ⟨H,I.tok _,q⟩
 | byt y =>
  obtain ⟨t,rfl⟩:=rx
  obtain ⟨hy,e'⟩:y.size<=sizeLine/\k=((y.size:Int) != 0):=e
  subst e'
  exact PySem.W.truthy_bytes (by omega) ⟨H,I.tok _,q⟩
 | ref p =>
  cases rx
  have e':(∃ xs,SqL X.K H p xs/\k=!xs.isEmpty)\/(∃ xs,SqT X.K H p xs/\k=!xs.isEmpty)\/∃ kvs,H p=some (.dK kvs)/\k=!kvs.isEmpty:=e
  rcases e' with ⟨xs,hx,e'⟩ | ⟨xs,hx,e'⟩ | ⟨kvs,hx,e'⟩
  ·subst e'
   obtain ⟨its,r,pl,hz⟩:=I.list hx
   have hlen:=r.length
   exact wpAny_truthy_list pl.isList (by simp only [List.size_toArray]; omega) ⟨H,I.tok _,by rw [l4 r]; exact q⟩
  ·subst e'
   obtain ⟨its,r,pl,hz⟩:=I.tuple hx
   have hlen:=r.length
   exact truthy_tuple pl (by simp only [List.size_toArray]; omega) ⟨H,I.tok _,by rw [l4 r]; exact q⟩
  ·subst e'
   obtain ⟨hz,hS,vs,r,m⟩:kvs.length<=sizeLine/\(p == sysModules)=false/\∃ vs,KV kvs vs/\s.heap.DictOf (aX X.prog X.w) p vs:=I.hok p _ hx
   have hlen:kvs.length=vs.length:=Paired.length r
   exact wpAny_truthy_dict hS m (by omega) ⟨H,I.tok _,by rw [uK r]; exact q⟩
 | _=>exact (show False from e).elim
theorem zJ (ha:PE X a ta)(he:∀ whole,isTrue a X.env whole=(do let v <- whole; standAt a.pos; holding [v] (truthy v))) :
  PT X a (λ σ H Q=>ta σ H λ x H'=>∃ k,agc X.K x H' k/\Q k H'):=by
 intro pins s σ H Q I h
 exact isTrue_plain (thn (ha pins s σ H _ I h) λ v s1 ⟨x,H1,I1,r1,q1⟩=>ae7 pins s1 σ H1 x v Q I1 r1 q1) (he _)
theorem ud:OpR X (binaryOp .Add) (λ x y H Q=>∃ i j,x=.str i/\y=.str j/\i.length+j.length<=sizeLine/\Q (.str (i++j)) H):=by
 intro pins s σ H x y v u Q I rx ry h
 obtain ⟨i,j,rfl,rfl,hz,q⟩:=h
 obtain ⟨t,rfl⟩:=rx
 obtain ⟨t',rfl⟩:=ry
 exact add_str (λ t' tk=>⟨.str (i++j),H,I.tok _,⟨_,rfl⟩,q⟩) hz
theorem vals1 {x:V}{us:List Value}(r:Vals [x] us):∃ u,us=[u]/\RelV x u:=by
 cases r with
 | cons r1 r2=>cases r2; exact ⟨_,rfl,r1⟩
theorem vals2 {x y:V}{us:List Value}(r:Vals [x,y] us):∃ u w',us=[u,w']/\RelV x u/\RelV y w':=by
 cases r with
 | cons r1 r2 =>
  cases r2 with
  | cons r3 r4=>cases r4; exact ⟨_,_,rfl,r1,r3⟩
theorem yD:dY X (.builtin "abs") (λ xs H Q=>∃ i,xs=[.int i]/\Q (.int (if i < 0 then -i else i)) H):=by
 intro pins s σ H xs us Q I r h
 obtain ⟨i,rfl,q⟩:=h
 obtain ⟨u,rfl,t,rfl⟩:=vals1 r
 exact call_abs_int λ u tk=>⟨.int (if i < 0 then -i else i),H,I.tok _,⟨_,rfl⟩,q⟩
theorem yd (hc:X.calm=true):dY X (.builtin "max") (λ xs H Q=>∃ i j,xs=[.int i,.int j]/\Q (.int (if j > i then j else i)) H):=by
 intro pins s σ H xs us Q I r h
 obtain ⟨i,j,rfl,q⟩:=h
 obtain ⟨u,w',rfl,⟨t,rfl⟩,⟨t',rfl⟩⟩:=vals2 r
 refine max_two_ints (I.ok.hd hc) λ h' tk k=>⟨_,H,I.kept k,?_,q⟩
 by_cases hj:j > i
 ·rw [if_pos hj,if_pos hj]; exact ⟨_,rfl⟩
 ·rw [if_neg hj,if_neg hj]; exact ⟨_,rfl⟩
theorem pz (hc:X.calm=true):dY X (.builtin "min") (λ xs H Q=>∃ i j,xs=[.int i,.int j]/\Q (.int (if j < i then j else i)) H):=by
 intro pins s σ H xs us Q I r h
 obtain ⟨i,j,rfl,q⟩:=h
 obtain ⟨u,w',rfl,⟨t,rfl⟩,⟨t',rfl⟩⟩:=vals2 r
 refine min_two_ints (I.ok.hd hc) λ h' tk k=>⟨_,H,I.kept k,?_,q⟩
 by_cases hj:j < i
 ·rw [if_pos hj,if_pos hj]; exact ⟨_,rfl⟩
 ·rw [if_neg hj,if_neg hj]; exact ⟨_,rfl⟩
def agH (K:PySem.W.Frag)(x:V)(H:Hp)(n:Nat):Prop :=
 match x with
 | .str y=>y.length<=sizeLine/\n=y.length
 | .byt y=>y.size<=sizeLine/\n=y.size
 | .ref p=>(∃ xs,SqL K H p xs/\n=xs.length)\/∃ xs,SqT K H p xs/\n=xs.length
 | _=>False
theorem fU:dY X (.builtin "len") (λ xs H Q=>∃ x n,xs=[x]/\agH X.K x H n/\Q (.int n) H):=by
 intro pins s σ H xs us Q I r h
 obtain ⟨x,n,rfl,e,q⟩:=h
 obtain ⟨u,rfl,rx⟩:=vals1 r
 have hl:=kh
 have hs:sizeLine=16777216:=sizeLine_eq
 cases x with
 | str y =>
  obtain ⟨t,rfl⟩:=rx
  obtain ⟨hy,e'⟩:y.length<=sizeLine/\n=y.length:=e
  subst e'
  exact len_str (by omega) ⟨.int _,H,I.tok _,⟨_,rfl⟩,q⟩
 | byt y =>
  obtain ⟨t,rfl⟩:=rx
  obtain ⟨hy,e'⟩:y.size<=sizeLine/\n=y.size:=e
  subst e'
  exact PySem.W.len_bytes (by omega) ⟨.int _,H,I.tok _,⟨_,rfl⟩,q⟩
 | ref p =>
  cases rx
  have e':(∃ xs,SqL X.K H p xs/\n=xs.length)\/∃ xs,SqT X.K H p xs/\n=xs.length:=e
  rcases e' with ⟨xs,hx,e'⟩ | ⟨xs,hx,e'⟩
  ·subst e'
   obtain ⟨its,r',pl,hz⟩:=I.list hx
   have hlen:=r'.length
   exact Calls.call_len_list pl.isList (by simp only [List.size_toArray]; omega) ⟨.int xs.length,H,I.tok _,⟨_,by simp only [List.size_toArray]; rw [hlen]⟩,q⟩
  ·subst e'
   obtain ⟨its,r',pl,hz⟩:=I.tuple hx
   have hlen:=r'.length
   exact len_tuple pl (by simp only [List.size_toArray]; omega) ⟨.int xs.length,H,I.tok _,⟨_,by simp only [List.size_toArray]; rw [hlen]⟩,q⟩
 | _=>exact (show False from e).elim
end
end L2
namespace L2
open PySem PySem.Spec PyProof.Rows
structure acD (h:Heap)(x dx C:Addr)(mA:Str->Option Value):Prop where
 obj:h.get? x=some (PySem.W.instObj C dx)
 ns:h.Ns1 dx mA
 ne:dx≠x
theorem p5 {h:Heap}{dx:Addr}{mA:Str->Option Value}(n:h.Ns1 dx mA):∃ od,h.get? dx=some od/\∀ name,PySem.W.lookIn name od=some (mA name):=by
 obtain ⟨o,es,ep,ho,hd,hk,_,hm⟩:=n
 refine ⟨o,ho,λ name=>?_⟩
 have e:=hm name
 unfold nsFind findBy at e
 rw [<- Array.find?_toList] at e
 unfold PySem.W.lookIn
 rw [hd]
 dsimp only
 split
 ·rename_i y q
  rw [q] at e
  exact congrArg some e
 ·rename_i q
  rw [q] at e
  have a:es.toList.any (·.refKey)=false:=by
   rw [List.any_eq_false]
   intro y hy
   obtain ⟨z,t,hkey⟩:=hk y (Array.mem_toList_iff.mp hy)
   simp [DictEntry.refKey,hkey]
  have a':¬ es.toList.any (·.refKey)=true:=by rw [a]; exact Bool.false_ne_true
  rw [if_neg a']
  exact congrArg some e
theorem acD.look {h:Heap}{x dx C:Addr}{mA:Str->Option Value}(I:acD h x dx C mA):∃ od,PySem.W.InstAt h x (PySem.W.instObj C dx) C (some od)/\∀ name,PySem.W.lookIn name od=some (mA name) :=
 let ⟨od,ho,hl⟩:=p5 I.ns
 ⟨od,⟨I.obj,rfl,rfl,ho⟩,hl⟩
section
variable {prog:Program}{w:World}{A:Around}{E:Value->Shared->Prop}{s:Shared}{K:PySem.W.Frag}{x dx C f:Addr}{mA:Str->Option Value}{name:Str}{v:Value}
theorem get_map {expr:Bool}{Q:Value->Shared->Prop}(X:K.In s.heap)(I:acD s.heap x dx C mA)(hg:PySem.W.plainGet K C name=true)(hh:PySem.W.hasDictIn K C=true)
  (ha:PySem.W.findIn K (.ref C) name=some none)(hv:mA name=some v)(hv':PySem.W.handedIn v=true)(h:Q v { s with toks:=s.toks+1 }) :
  wpAny (model prog w) A (getAttr (.ref x) name expr) Q E s:=by
 obtain ⟨od,J,hl⟩:=I.look
 exact PySem.W.get_value X J (PySem.W.plainGet_of hg).1 (PySem.W.findObj_own hh ha rfl (by rw [hl,hv])) hv' h
theorem zv {pl:Sem Bool}{Q:Value×List Value->Shared->Prop}(X:K.In s.heap)(I:acD s.heap x dx C mA)(hg:PySem.W.plainGet K C name=true)
  (hf:PySem.W.findIn K (.ref C) name=some (some (.ref f)))(ht:PySem.W.isFn K (.ref f)=true)(hv:mA name=none)(h:Q (.ref f,[.ref x]) s) :
  wpAny (model prog w) A (getMethod (.ref x) name pl) Q E s:=by
 obtain ⟨od,J,hl⟩:=I.look
 exact PySem.W.method_fn X J (PySem.W.plainGet_of hg).1 (PySem.W.plainGet_of hg).2 hf (beq_iff_eq.mp ht) (by show (PySem.W.lookIn name od).map (·.isSome)=some false; rw [hl,hv]; rfl) h
theorem aa2 {ns:List Str}{Q:Unit->Shared->Prop}(X:K.In s.heap)(I:acD s.heap x dx C mA)
  (hs:PySem.W.findIn K (.ref C) "__setattr__" = some (some (.builtin "object.__setattr__")))(hp:PySem.W.plainOver K C=true)(ht:PySem.W.takerIn K C name=some none)(hh:PySem.W.hasDictIn K C=true)
  (hw:PySem.Within mA ns)(hsz:ns.length<=sizeLine)
  (h:∀ h',acD h' x dx C (λ y=>if y=name then some v else mA y)->Heap.SameBut dx s.heap h'->Q () { s with heap:=h',toks:=s.toks+2 }) :
  wpAny (model prog w) A (setAttr (.ref x) name v) Q E s:=by
 obtain ⟨od,J,hl⟩:=I.look
 refine PySem.W.set_plain X J hs (PySem.W.osa_open (s:={ s with toks:=s.toks+1 }) (r:=none) X J hp ht λ b=>?_)
 obtain ⟨cd,hc,hd'⟩:=PySem.W.any_some hh
 have hx:s.heap.get? x=some ⟨.ref C,some dx,.plain,#[]⟩:=I.obj
 refine wpAny_bind (wpAny_pure (wpAny_bind (wpAny_bind (wpAny_loadPart hx (wpAny_bind (PySem.W.Looks.here (s:={ s with toks:=s.toks+1 }) (PySem.W.looks_clsIn X hc) ?_))))))
 rw [hd']
 refine wpAny_pure (a:=some dx) (wpAny_bind (wpAny_pure (wpAny_bind ?_)))
 refine wpAny_nsSet1 (s:={ s with toks:=s.toks+1 }) I.ns λ h' hn2 hs2=>?_
 obtain ⟨oD,esD,epD,hoD,hdD,hcD⟩:=hn2.count (PySem.Within.cons name v hw)
 refine wpAny_bind (wpAny_lookBehind hoD (by rw [hdD]; exact pastItsLine_dict (Nat.le_trans hcD (by rw [List.length_cons]; omega))) ?_)
 exact wpAny_pure (h _ ⟨(hs2.2 _ (Ne.symm I.ne)).trans I.obj,hn2,I.ne⟩ hs2)
theorem sP {R:Result->Shared->Prop}{vs:List Value}{kw:List (Str×Value)}(X:K.In s.heap)(hm:PySem.W.makesIn K C=true)
  (hi:PySem.W.findIn K (.ref C) "__init__" = some (some (.ref f)))(hf:PySem.W.typeIn K (.ref f)=some (.type "function"))
  (h:codeAny (model prog w) (A.under (.builtin "type.__call__" ⟨.ref C :: vs,kw⟩)) (.call (.ref f) ⟨.ref (s.heap.objs.size+1) :: vs,kw⟩) (PySem.W.InitBack (s.heap.objs.size+1) R)
   {s with heap:=(s.heap.push PySem.W.emptyDict).push (PySem.W.instObj C s.heap.objs.size) }) :
  codeAny (model prog w) A (.call (.ref C) ⟨vs,kw⟩) R s:=by
 obtain ⟨hh,g,d,t,os⟩:=s
 exact PySem.W.make_core (PySem.W.makes_of X hm) (PySem.W.looks_findIn X hi) (λ self=>PySem.W.bind_fn X self hf) (.inl rfl) h
end
def kR (f:Str)(v:V):List (Str×V)->List (Str×V)
 | []=>[(f,v)]
 | (g,x) :: r=>if g=f then (g,v) :: r else (g,x) :: kR f v r
theorem j3 (f g:Str)(v:V):∀ fs:List (Str×V),(kR f v fs).lookup g=if g=f then some v else fs.lookup g
 | []=>by
  show List.lookup g [(f,v)]=_
  by_cases h:g=f
  ·have hb:(g == f)=true:=beq_iff_eq.mpr h
   simp only [List.lookup,hb,if_pos h]
  ·have hb:(g == f)=false:=beq_eq_false_iff_ne.mpr h
   simp only [List.lookup,hb,if_neg h]
 | (k,x) :: r=>by
  have ih:=j3 f g v r
  rw [show kR f v ((k,x) :: r)=(if k=f then (k,v) :: r else (k,x) :: kR f v r) from rfl]
  by_cases hk:k=f
  ·rw [if_pos hk]
   by_cases h:g=k
   ·have hb:(g == k)=true:=beq_iff_eq.mpr h
    simp only [List.lookup,hb,if_pos (h.trans hk)]
   ·have hb:(g == k)=false:=beq_eq_false_iff_ne.mpr h
    simp only [List.lookup,hb,if_neg (λ e:g=f=>h (e.trans hk.symm))]
  ·rw [if_neg hk]
   by_cases h:g=k
   ·have hb:(g == k)=true:=beq_iff_eq.mpr h
    simp only [List.lookup,hb,if_neg (λ e:g=f=>hk (h.symm.trans e))]
   ·have hb:(g == k)=false:=beq_eq_false_iff_ne.mpr h
    simp only [List.lookup,hb]
    exact ih
theorem jO (f:Str)(v:V):∀ fs:List (Str×V),f∈(kR f v fs).map (·.1)/\∀ g,g∈fs.map (·.1)->g∈(kR f v fs).map (·.1)
 | []=>⟨by simp [kR],λ g h=>by simp at h⟩
 | (k,x) :: r=>by
  obtain ⟨i1,i2⟩:=jO f v r
  rw [show kR f v ((k,x) :: r)=(if k=f then (k,v) :: r else (k,x) :: kR f v r) from rfl]
  by_cases hk:k=f
  ·rw [if_pos hk]
   subst hk
   exact ⟨by simp,λ g h=>by simpa using h⟩
  ·rw [if_neg hk]
   refine ⟨?_,λ g h=>?_⟩
   ·rw [List.map_cons]
    exact List.mem_cons_of_mem _ i1
   ·rw [List.map_cons] at h ⊢
    rcases List.mem_cons.mp h with e | e
    ·exact List.mem_cons.mpr (.inl e)
    ·exact List.mem_cons_of_mem _ (i2 g e)
theorem jD (f:Str)(v:V):∀ fs:List (Str×V),(kR f v fs).length<=fs.length+1
 | []=>by simp [kR]
 | (k,x) :: r=>by
  have ih:=jD f v r
  rw [show kR f v ((k,x) :: r)=(if k=f then (k,v) :: r else (k,x) :: kR f v r) from rfl]
  by_cases hk:k=f
  ·rw [if_pos hk,List.length_cons,List.length_cons]; omega
  ·rw [if_neg hk,List.length_cons,List.length_cons]; omega
theorem nk.some_of {v:V}{o:Option Value}(r:nk (some v) o):∃ u,o=some u/\RelV v u:=by
 cases o with
 | none=>exact (show False from r).elim
 | some u=>exact ⟨u,rfl,r⟩
theorem nk.none_of {o:Option Value}(r:nk none o):o=none:=by
 cases o with
 | none=>rfl
 | some u=>exact (show False from r).elim
theorem pK {v:V}{u:Value}(r:RelV v u):PySem.W.handedIn u=true:=by
 cases v with
 | non=>cases (show u=Value.none from r); rfl
 | bl b=>cases (show u=Value.bool b from r); rfl
 | int i=>obtain ⟨t,e⟩:=(show ∃ t,u=Value.int i t from r); cases e; rfl
 | str x=>obtain ⟨t,e⟩:=(show ∃ t,u=Value.str x t from r); cases e; rfl
 | byt b=>obtain ⟨t,e⟩:=(show ∃ t,u=Value.bytes b t from r); cases e; rfl
 | flt b=>obtain ⟨t,e⟩:=(show ∃ t,u=Value.float b t from r); cases e; rfl
 | ref a=>cases (show u=Value.ref a from r); rfl
 | ty n=>cases (show u=Value.type n from r); rfl
section
variable {P:Program}{w:World}{H H':Hp}{h h':Heap}{a C dx:Addr}{fs fs':List (Str×V)}
theorem qj (hok:HOk P w H h)(e:H a=some (.ins C dx fs)):∃ mA,acD h a dx C mA/\(∀ f,nk (fs.lookup f) (mA f))/\PySem.Within mA (fs.map (·.1))/\fs.length<=1000/\H dx=some (.own a):=by
 obtain ⟨d,z,ne,ob,mA,n,r,q⟩:=(show bX P w H h a (.ins C dx fs) from hok a _ e)
 exact ⟨mA,⟨ob,n,ne⟩,r,q,z,d⟩
end
structure Cls (K:PySem.W.Frag)(C:Addr):Prop where
 pg:PySem.W.plainGet K C Str.empty=true
 hd:PySem.W.hasDictIn K C=true
 po:PySem.W.plainOver K C=true
 sa:PySem.W.findIn K (.ref C) "__setattr__" = some (some (.builtin "object.__setattr__"))
theorem Cls.get {K:PySem.W.Frag}{C:Addr}(c:Cls K C)(f:Str):PySem.W.plainGet K C f=true:=c.pg
def cy (K:PySem.W.Frag)(C:Addr)(f:Str):Prop:=PySem.W.findIn K (.ref C) f=some none
theorem cy.afD {K:PySem.W.Frag}{C:Addr}{f:Str}(n:cy K C f):PySem.W.takerIn K C f=some none:=by
 unfold PySem.W.takerIn
 rw [show PySem.W.findIn K (.ref C) f=some none from n]
 rfl
structure Meth (K:PySem.W.Frag)(C:Addr)(m:Str)(f:Addr):Prop where
 at_:PySem.W.findIn K (.ref C) m=some (some (.ref f))
 fn:PySem.W.isFn K (.ref f)=true
 kp:PySem.W.keepIn K (.ref f)=true
section
variable {X:Cx}{pins:List (Addr×Obj)}{σ:St}{H:Hp}{s:Shared}{a C dx:Addr}{fs:List (Str×V)}{f:Str}{v:V}{A:Around}{E:Value->Shared->Prop}
theorem lH {b:Bool}{Q:Value->Shared->Prop}(I:Inv X pins σ H s)(e:H a=some (.ins C dx fs))(c:Cls X.K C)(n:cy X.K C f)(l:fs.lookup f=some v)
  (h:∀ u s',Inv X pins σ H s'->RelV v u->Q u s'):wpAny (model X.prog X.w) A (getAttr (.ref a) f b) Q E s:=by
 obtain ⟨mA,O,r,_,_,_⟩:=qj I.hok e
 obtain ⟨u,hu,ru⟩:=nk.some_of (v:=v) (o:=mA f) (by rw [<- l]; exact r f)
 exact get_map I.kIn O (c.get f) c.hd n hu (pK ru) (h u _ (I.tok _) ru)
theorem iA {m:Str}{g:Addr}{pl:Sem Bool}{Q:Value×List Value->Shared->Prop}(I:Inv X pins σ H s)(e:H a=some (.ins C dx fs))(c:Cls X.K C)(k:Meth X.K C m g)(l:fs.lookup m=none)
  (h:Q (.ref g,[.ref a]) s):wpAny (model X.prog X.w) A (getMethod (.ref a) m pl) Q E s:=by
 obtain ⟨mA,O,r,_,_,_⟩:=qj I.hok e
 have hn:mA m=none:=nk.none_of (by rw [<- l]; exact r m)
 exact zv I.kIn O (c.get m) k.at_ k.fn hn h
theorem lj {y:V}{u:Value}{Q:Unit->Shared->Prop}(I:Inv X pins σ H s)(e:H a=some (.ins C dx fs))(c:Cls X.K C)(n:cy X.K C f)(hl:fs.length < 1000)(ry:RelV y u)
  (h:∀ s',Inv X pins σ (upd H a (.ins C dx (kR f y fs))) s'->Q () s'):wpAny (model X.prog X.w) A (setAttr (.ref a) f u) Q E s:=by
 obtain ⟨mA,O,r,wi,_,ho⟩:=qj I.hok e
 have hz:(fs.map (·.1)).length<=sizeLine:=by rw [List.length_map,sizeLine_eq]; omega
 refine aa2 I.kIn O c.sa c.po n.afD c.hd wi hz λ h' O' sb=>h _ ?_
 have hd:∃ o,h'.get? dx=some o:=let ⟨o,_,_,e',_⟩:=O'.ns; ⟨o,e'⟩
 refine I.write (x:=a) (e:=dx) (by rw [e]; exact True.intro) (.inr ho) (λ b q hb z=>(sb.2 b hb).trans z) hd ?_
 refine ⟨by rw [ao O.ne]; exact ho,?_,O.ne,O'.obj,_,O'.ns,λ g=>?_,λ g hg=>?_⟩
 ·have:=jD f y fs; omega
 ·show nk ((kR f y fs).lookup g) (if g=f then some u else mA g)
  rw [j3]
  by_cases q:g=f
  ·rw [if_pos q,if_pos q]; exact ry
  ·rw [if_neg q,if_neg q]; exact r g
 ·by_cases q:g=f
  ·rw [q]; exact (jO f y fs).1
  ·refine (jO f y fs).2 g (wi g λ z=>hg ?_)
   show (if g=f then some u else mA g)=none
   rw [if_neg q]; exact z
theorem Inv.made (I:Inv X pins σ H s):Inv X pins σ (upd (upd H s.heap.objs.size (.own (s.heap.objs.size+1))) (s.heap.objs.size+1) (.ins C s.heap.objs.size []))
  {s with heap:=(s.heap.push PySem.W.emptyDict).push (PySem.W.instObj C s.heap.objs.size) }:=by
 have e1:(s.heap.push PySem.W.emptyDict).get? s.heap.objs.size=some PySem.W.emptyDict:=Heap.get?_push_size s.heap rfl
 have e2:((s.heap.push PySem.W.emptyDict).push (PySem.W.instObj C s.heap.objs.size)).get? (s.heap.objs.size+1)=some (PySem.W.instObj C s.heap.objs.size):=by
  have:=Heap.get?_push_size (s.heap.push PySem.W.emptyDict) (o:=PySem.W.instObj C s.heap.objs.size) rfl
  rwa [Heap.size_push] at this
 have e3:(s.heap.push PySem.W.emptyDict).Ns s.heap.objs.size (λ _=>none):=⟨PySem.W.emptyDict,#[],_,e1,rfl,(λ e he=>absurd he (by simp)),λ _=>rfl⟩
 have I1:=I.laid (a:=s.heap.objs.size) (o:=.own (s.heap.objs.size+1)) (h':=s.heap.push PySem.W.emptyDict) (t':=s.toks) (λ b u q=>Heap.get?_push_of_some _ q) (Nat.le_refl _) ⟨_,e1⟩
 refine I1.laid (a:=s.heap.objs.size+1) (o:=.ins C s.heap.objs.size []) (t':=s.toks) (λ b u q=>Heap.get?_push_of_some _ q) (Nat.le_of_eq (Heap.size_push _ _)) ?_
 have ne:s.heap.objs.size≠s.heap.objs.size+1:=Nat.ne_of_lt (Nat.lt_succ_self _)
 refine ⟨by rw [ao ne,au],Nat.zero_le _,ne,e2,λ _=>none,(Heap.Ns1.of_empty e3).at λ o q=>Heap.get?_push_of_some _ q,λ _=>True.intro,λ y hy=>absurd rfl hy⟩
theorem vz {prog:Program}{w:World}{env:Env}{e:Expr}{f:Str}{pos:Pos}{s:Shared}{Q:Value->Shared->Prop}(hb:attributeBase e f env (eval e env)=eval e env)
  (h:wpAny (model prog w) A (eval e env) (λ o s₁=>wpAny (model prog w) A (getAttr o f true) Q E s₁) E s):wpAny (model prog w) A (eval (.Attribute e f pos) env) Q E s :=
 Attribute_any_ h (by rw [arm_eval_Attribute,hb])
end
def ahk (K:PySem.W.Frag)(ta:TE)(f:Str):TE:=λ σ H Q=>ta σ H λ x H1=>∃ a C dx fs v,x=.ref a/\H1 a=some (.ins C dx fs)/\Cls K C/\cy K C f/\fs.lookup f=some v/\Q v H1
def ahx (K:PySem.W.Frag)(ta tv:TE)(f:Str):TS:=λ D σ H=>tv σ H λ y H1=>ta σ H1 λ x H2=>∃ a C dx fs,x=.ref a/\H2 a=some (.ins C dx fs)/\Cls K C/\cy K C f/\fs.length < 1000 /\
 D.nx σ (upd H2 a (.ins C dx (kR f y fs)))
def ahp (X:Cx)(op:Operator)(rd:V->V->Hp->VK->Prop):Prop :=
 ∀ (pins:List (Addr×Obj)) (s:Shared) (σ:St) (H:Hp) (x y:V) (u v:Value) (Q:VK),Inv X pins σ H s->RelV x u->RelV y v->rd x y H Q->wpAny (model X.prog X.w) X.A (inplaceOp op u v) (EP X pins σ Q) X.xe s
def ab7 (K:PySem.W.Frag)(ta tv:TE)(rd:V->V->Hp->VK->Prop)(f:Str):TS:=λ D σ H=>ta σ H λ x H1=>∃ a C dx fs v,x=.ref a/\H1 a=some (.ins C dx fs)/\Cls K C/\cy K C f/\fs.lookup f=some v /\
 tv σ H1 λ y H2=>rd v y H2 λ z H3=>∃ dx' fs',H3 a=some (.ins C dx' fs')/\fs'.length < 1000/\D.nx σ (upd H3 a (.ins C dx' (kR f z fs')))
section
variable {X:Cx}{o e value:Expr}{f:Str}{pos pos' tpos:Pos}{ta tv:TE}
theorem aeo (he:PE X e ta)(hb:attributeBase e f X.env (eval e X.env)=eval e X.env):PE X (.Attribute e f pos) (ahk X.K ta f):=by
 intro pins s σ H Q I h
 refine vz hb (thn (he pins s σ H _ I h) λ u s1 hq19=>?_)
 obtain ⟨x,H1,I1,rx,a,C,dx,fs,v,ex,ea,c,n,l,q⟩:=hq19
 subst ex
 obtain rfl:u=Value.ref a:=rx
 exact lH I1 ea c n l λ u' s2 I2 ru=>⟨v,H1,I2,ru,q⟩
theorem adX (ha:PE X o ta)(hv:PE X value tv)(hs:swapsWith value (some (.Attribute o f pos')) pos.line X.env=pure false):PS X (.Assign [.Attribute o f pos'] value pos) (ahx X.K ta tv f):=by
 intro pins s σ H D I h
 refine plainObj_wpAny_Assign_Attribute (thn (hv pins s σ H _ I h) λ u s1 ⟨y,H1,I1,ry,q⟩=>thn (ha pins s1 σ H1 _ I1 q) λ ov s2 ⟨x,H2,I2,rx,a,C,dx,fs,ex,ea,c,n,l,q2⟩=>?_) hs
 subst ex
 obtain rfl:ov=Value.ref a:=rx
 exact lj I2 ea c n l ry λ s3 I3=>⟨σ,_,I3,q2⟩
theorem wZ {op:Operator}{rd:V->V->Hp->VK->Prop}(ha:PE X o ta)(hv:PE X value tv)(hop:ahp X op rd):PS X (.AugAssign (.Attribute o f tpos) op value pos) (ab7 X.K ta tv rd f):=by
 intro pins s σ H D I h
 refine wpAny_AugAssign_AttributeAny (thn (ha pins s σ H _ I h) λ ov s1 hq20=>?_)
 obtain ⟨x,H1,I1,rx,a,C,dx,fs,v,ex,ea,c,n,l,q⟩:=hq20
 subst ex
 obtain rfl:ov=Value.ref a:=rx
 refine lH I1 ea c n l λ u s2 I2 ru=>thn (hv pins s2 σ H1 _ I2 q) λ w3 s3 ⟨y,H2,I3,ry,q3⟩=>thn (hop pins s3 σ H2 v y u w3 _ I3 ru ry q3) λ w4 s4 hq21=>?_
 obtain ⟨z,H3,I4,rz,dx',fs',ea',l',q4⟩:=hq21
 exact lj I4 ea' c n l' rz λ s5 I5=>⟨σ,_,I5,q4⟩
end
section
variable {X:Cx}{pins:List (Addr×Obj)}{σ:St}{H:Hp}{s:Shared}{A:Around}{E:Value->Shared->Prop}{Q:Value->Shared->Prop}{c:Value}{b:Bool}
end
end L2
namespace L2
open PySem PySem.Spec PyProof.Rows
structure cG (k:Nat)(A:Around):Prop where
 hd:A.handled=none
 gd:A.guards=some []
 dp:A.depth+3 * k+5 < recursionLimit
 un:A.units+16 * k+200 < cLine
theorem cG.mono {j k:Nat}{A:Around}(r:cG k A)(h:j<=k):cG j A:=⟨r.hd,r.gd,by have:=r.dp; omega,by have:=r.un; omega⟩
theorem cG.deeper {k:Nat}{A:Around}(r:cG (k+1) A)(env:Env):cG k (A.deeper env) :=
 ⟨r.hd,r.gd,by have:=r.dp; show A.depth+1+3 * k+5 < _; omega,by have:=r.un; show A.units+3+16 * k+200 < _; omega⟩
theorem cG.in1 {k:Nat}{A:Around}(r:cG (k+1) A):cG k A.in1 :=
 ⟨r.hd,r.gd,by have:=r.dp; show A.depth+3 * k+5 < _; omega,by have:=r.un; show A.units+1+16 * k+200 < _; omega⟩
theorem tW {A:Around}{C:Addr}{us:List Value}{kw:List (Str×Value)}:(A.under (.builtin "type.__call__" ⟨.ref C :: us,kw⟩)).depth=A.depth+1:=by
 first | rfl | simp [Around.under,Code.weight,Code.isCreation,Code.isGuard,Code.isCaller,Code.frames,Code.isFrame,guardIds]
theorem uI {A:Around}{C:Addr}{us:List Value}{kw:List (Str×Value)}:(A.under (.builtin "type.__call__" ⟨.ref C :: us,kw⟩)).units=A.units+1:=by
 first | rfl | simp [Around.under,Code.cUnits,Code.frames,Code.isFrame]
theorem cG.make {k:Nat}{A:Around}(r:cG (k+1) A)(C:Addr)(us:List Value)(kw:List (Str×Value)):cG k (A.under (.builtin "type.__call__" ⟨.ref C :: us,kw⟩)) :=
 ⟨r.hd,(by first | exact r.gd | (simpa [Around.under,Code.isGuard,Code.frames,Code.isFrame,guardIds] using r.gd)),by have:=r.dp; rw [tW]; omega,by have:=r.un; rw [uI]; omega⟩
theorem cG.depth {k:Nat}{A:Around}(r:cG k A):A.depth < recursionLimit:=by have:=r.dp; omega
theorem cG.units {k:Nat}{A:Around}(r:cG k A):A.units+64 < cLine:=by have:=r.un; omega
def aab:TA:=λ _ H Q=>Q [] H
def uc (ta:TE)(tr:TA):TA:=λ σ H Q=>ta σ H λ x H1=>tr σ H1 λ xs H2=>Q (x :: xs) H2
section
variable {X:Cx}{e:Expr}{es:List Expr}{te:TE}{t:TA}{pos:Pos}
theorem lE:PA X [] aab:=λ _ _ _ _ H Q I h=>Calls.spliced_nil ⟨[],H,I,.nil,h⟩
theorem gF (ha:PE X e te)(hr:PA X es t)(hs:starEach (e :: es) X.env=(false,eval e X.env) :: starEach es X.env:=by rfl):PA X (e :: es) (uc te t):=by
 intro pos pins s σ H Q I h
 rw [hs]
 show wpAny _ _ (spliced ((false,eval e X.env) :: backTo pos (starEach es X.env))) _ _ s
 refine Calls.spliced_cons (thn (ha pins s σ H _ I h) λ u s1 hq22=>?_)
 obtain ⟨x,H1,I1,r1,q1⟩:=hq22
 exact thn (hr pos pins s1 σ H1 _ I1 q1) λ us s2 ⟨xs,H2,I2,r2,q2⟩=>⟨x :: xs,H2,I2,.cons r1 r2,q2⟩
def agO (t:TA):TE:=λ σ H Q=>t σ H λ xs H1=>xs.length<=sizeLine/\∀ p,H1 p=none->Q (.ref p) (upd H1 p (.tup xs))
def ahG (t:TA):TE:=λ σ H Q=>t σ H λ xs H1=>xs.length<=sizeLine/\∀ p,H1 p=none->Q (.ref p) (upd H1 p (.lst xs))
theorem zY {x1}(h:PA X es t):PE X (.Tuple es x1 pos) (agO t):=by
 intro pins s σ H Q I hq
 refine wpAny_Tuple_spliced (thn (h pos pins s σ H _ I hq) λ us s1 ⟨xs,H1,I1,r,z,q⟩=>⟨by rw [<- r.length]; exact z,?_⟩)
 have hf:H1 s1.heap.objs.size=none:=I1.hok.fresh (Nat.le_refl _)
 refine ⟨.ref s1.heap.objs.size,upd H1 s1.heap.objs.size (.tup xs),I1.laid (t':=s1.toks) (λ b u e=>Heap.get?_push_of_some _ e) (Nat.le_refl _) ?_,rfl,q _ hf⟩
 exact ⟨z,us,r,aaH.new _ _⟩
theorem aal (h:PA X es t):PE X (.List es pos) (ahG t):=by
 intro pins s σ H Q I hq
 refine wpAny_List_spliced (thn (h pos pins s σ H _ I hq) λ us s1 ⟨xs,H1,I1,r,z,q⟩=>⟨by rw [<- r.length]; exact z,?_⟩)
 have hf:H1 s1.heap.objs.size=none:=I1.hok.fresh (Nat.le_refl _)
 refine ⟨.ref s1.heap.objs.size,upd H1 s1.heap.objs.size (.lst xs),I1.laid (t':=s1.toks) (λ b u e=>Heap.get?_push_of_some _ e) (Nat.le_refl _) ?_,rfl,q _ hf⟩
 exact ⟨z,us,0,r,Heap.get?_push_size _ rfl⟩
end
abbrev Sp:=List V->Hp->VK->XK->Prop
abbrev CXT:=List Env->Hp->Shared->XK->Value->Shared->Prop
structure aat (P:Program)(w:World)(K:PySem.W.Frag)(mg:Str->Option Value)(base:Heap)(A:Around)(outer:List Env)(s:Shared)(H:Hp):Prop where
 frames:A.frames=some outer
 mod:Mod K mg base
 bs:∀ b o,base.get? b=some o->s.heap.get? b=some o/\H b=none
 bsz:base.objs.size<=s.heap.objs.size
 nN:s.heap.FunFrames base outer
 frf:∀ b∈frs outer,H b=none
 hok:HOk P w H s.heap
 bare:AllBare s.gens
def CE (outer:List Env)(P:Program)(w:World)(H:Hp)(s:Shared)(Q:VK)(u:Value)(s':Shared):Prop :=
 ∃ v H',s'.os=s.os/\AllBare s'.gens/\Un (frs outer) [] H H' s.heap s'.heap/\HOk P w H' s'.heap/\RelV v u/\Q v H'
def CR (CX:CXT)(outer:List Env)(P:Program)(w:World)(H:Hp)(s:Shared)(Q:VK)(E:XK)(r:Result)(s':Shared):Prop :=
 match r with
 | .ok (.ret u)=>CE outer P w H s Q u s'
 | .ok _=>False
 | .error e=>CX outer H s E e s'
structure bV (P:Program)(w:World)(K:PySem.W.Frag)(mg:Str->Option Value)(base:Heap)(CX:CXT)(k:Nat)(f:Addr)(fd:FuncData)(ps:List Str)(sp:Sp):Prop where
 len:∀ vs H Q E,sp vs H Q E->vs.length=ps.length
 run:∀ (A:Around) (outer:List Env) (s:Shared) (H:Hp) (args:Args) (us:List Value) (vs:List V) (Q:VK) (E:XK),cG k A->aat P w K mg base A outer s H->BindsTo s fd args (ps.zip us)->Vals vs us->sp vs H Q E ->
  codeAny (model P w) A (.call (.ref f) args) (CR CX outer P w H s Q E) s
theorem aat.make {P:Program}{w:World}{K:PySem.W.Frag}{mg:Str->Option Value}{base:Heap}{A:Around}{outer:List Env}{s:Shared}{H:Hp}(e:aat P w K mg base A outer s H)(C:Addr)(us:List Value)(kw:List (Str×Value)) :
  aat P w K mg base (A.under (.builtin "type.__call__" ⟨.ref C :: us,kw⟩)) outer s H:=⟨by first | exact e.frames | (simpa [Around.under,Code.envs,Code.isFrame,pushEnvs] using e.frames),e.mod,e.bs,e.bsz,e.nN,e.frf,e.hok,e.bare⟩
section
variable {X:Cx}{pins:List (Addr×Obj)}{σ:St}{H:Hp}{s s':Shared}
theorem Inv.ac2 (I:Inv X pins σ H s):aat X.prog X.w X.K X.mg X.base X.A X.stack s H :=
 ⟨I.ok.frames,I.ok.mod,I.bs,Nat.le_trans I.ok.bsz I.sz,I.stack,I.mZ,I.hok,I.bare⟩
theorem Inv.after {Q:VK}{u:Value}(I:Inv X pins σ H s)(h:CE X.stack X.prog X.w H s Q u s'):EP X pins σ Q u s':=by
 obtain ⟨v,H',os,bare,un,hok,r,q⟩:=h
 obtain ⟨hh,g,d,t,os'⟩:=s'
 obtain rfl:os'=s.os:=os
 exact ⟨v,H',I.call (h':=hh) (g':=g) (d':=d) (t':=t) (ch:=[]) un hok bare (λ b z=>absurd z (by simp)),r,q⟩
end
def agw (sp:Sp)(dvs:List V)(E:XK)(t:TA):TE:=λ σ H Q=>t σ H λ vs H1=>sp (vs++dvs) H1 Q E
def abG (C:Addr)(m:Str)(sp:Sp)(dvs:List V)(E:XK)(ta:TE)(t:TA):TE:=λ σ H Q=>ta σ H λ x H1=>∃ a dx fs,x=.ref a/\H1 a=some (.ins C dx fs)/\fs.lookup m=none /\
 t σ H1 λ vs H2=>sp (x :: (vs++dvs)) H2 Q E
def aeK (C:Addr)(sp:Sp)(dvs:List V)(E:XK)(t:TA):TE:=λ σ H Q=>t σ H λ vs H1=>∀ x dx,H1 x=none->H1 dx=none->dx≠x ->
 sp (.ref x :: (vs++dvs)) (upd (upd H1 dx (.own x)) x (.ins C dx [])) (λ v H2=>v=.non/\Q (.ref x) H2) E
def Binds (K:PySem.W.Frag)(fd:FuncData)(ps:List Str)(ds:List Value):Prop :=
 ∀ (s:Shared) (us:List Value),K.In s.heap->(us++ds).length=ps.length->BindsTo s fd ⟨us,[]⟩ (ps.zip (us++ds))
theorem Binds.all {K:PySem.W.Frag}{fd:FuncData}{ps:List Str}(h:∀ us:List Value,us.length=ps.length->bindArgs fd ⟨us,[]⟩=pure (ps.zip us)):Binds K fd ps []:=λ s us _ hl=>by
 rw [List.append_nil] at hl ⊢
 exact .of_eq (h us hl)
def Passes (CX:CXT)(X:Cx)(E:XK):Prop:=∀ (pins:List (Addr×Obj)) (σ:St) (H:Hp) (s:Shared) (e:Value) (s':Shared),Inv X pins σ H s->CX X.stack H s E e s'->X.xe e s'
section
variable {X:Cx}{CX:CXT}{k:Nat}{f C:Addr}{fd:FuncData}{ps:List Str}{sp:Sp}{dvs:List V}{ds:List Value}{E:XK}{x m:Str}{p pos apos:Pos}{e o:Expr}{es:List Expr}{ta:TE}{t:TA}
theorem vN {pins:List (Addr×Obj)}{σ:St}{H:Hp}{s:Shared}{Q:VK}{us:List Value}{vs:List V}(F:bV X.prog X.w X.K X.mg X.base CX k f fd ps sp)(hr:cG k X.A)(hb:Binds X.K fd ps ds)(hd:Vals dvs ds)(hx:Passes CX X E)
  (I:Inv X pins σ H s)(r:Vals vs us)(h:sp (vs++dvs) H Q E):wpAny (model X.prog X.w) X.A (call (.ref f) us) (EP X pins σ Q) X.xe s:=by
 have r2:Vals (vs++dvs) (us++ds):=r.append hd
 have hl:(us++ds).length=ps.length:=by rw [<- r2.length]; exact F.len _ _ _ _ h
 refine wpAny_call (codeAny_mono (F.run X.A X.stack s H ⟨us,[]⟩ (us++ds) (vs++dvs) Q E hr I.ac2 (hb s us I.kIn hl) r2 h) λ r s' hq=>?_)
 cases r with
 | error e=>exact hx pins σ H s e s' I hq
 | ok fl =>
  cases fl with
  | ret u=>exact I.after hq
  | next=>exact False.elim hq
  | brk=>exact False.elim hq
  | cont=>exact False.elim hq
theorem abg (F:bV X.prog X.w X.K X.mg X.base CX k f fd ps sp)(hr:cG k X.A)(hg:Gl X x)(hm:X.mg x=some (.ref f))(hk:PySem.W.keepIn X.K (.ref f)=true)(hb:Binds X.K fd ps ds)(hd:Vals dvs ds)(hx:Passes CX X E)
  (ha:PA X (e :: es) t)(hdb:(x == ("__debug__" : Str))=false:=by decide)(he:starEach (e :: es) X.env=(false,eval e X.env) :: starEach es X.env:=by rfl)(hpl:(backTo pos (starEach es X.env)).any (·.1)=false:=by rfl) :
  PE X (.Call (.Name x p) (e :: es) [] pos) (agw sp dvs E t):=by
 intro pins s σ H Q I h
 refine wpAny_Call_Name_kw (gB I hg hm ?_ hdb)
 refine PySem.W.callWith_K (h₀:=X.base) I.ok.mod.kin hk (thn (ha pos pins s σ H _ I h) λ us s1 ⟨vs,H1,I1,r,q⟩=>⟨I1.kIn,?_⟩) he hpl
 exact vN F hr hb hd hx I1 r q
theorem abY {pl:Sem Bool}(he:PE X o ta)(c:Cls X.K C)(hm:Meth X.K C m f)(F:bV X.prog X.w X.K X.mg X.base CX k f fd ps sp)(hr:cG k X.A)(hb:Binds X.K fd ps ds)(hd:Vals dvs ds)(hx:Passes CX X E)(ha:PA X (e :: es) t)
  (hst:starEach (e :: es) X.env=(false,eval e X.env) :: starEach es X.env:=by rfl)(hpl:(backTo pos (starEach es X.env)).any (·.1)=false:=by rfl)
  (ht:eval (.Call (.Attribute o m apos) (e :: es) [] pos) X.env=(do
   let ov <- eval o X.env
   standAt apos.atName
   let (f,first) <- holding [ov] (getMethod ov m pl)
   callWith pos f first (backTo pos (starEach (e :: es) X.env)) (backToKw pos (keywordEach [] X.env))):=by rfl) :
  PE X (.Call (.Attribute o m apos) (e :: es) [] pos) (abG C m sp dvs E ta t):=by
 intro pins s σ H Q I h
 refine PySem.W.methodCall_KW (pl:=pl) (thn (he pins s σ H _ I h) λ u s1 ⟨x,H1,I1,rx,a,dx,fs,ex,ea,l,q⟩=>?_) ht
 subst ex
 obtain rfl:u=Value.ref a:=rx
 refine iA I1 ea c hm l ?_
 refine PySem.W.callWith_K (first:=[.ref a]) (h₀:=X.base) I.ok.mod.kin hm.kp (thn (ha pos pins s1 σ H1 _ I1 q) λ us s2 ⟨vs,H2,I2,r,q2⟩=>⟨I2.kIn,?_⟩) hst hpl
 exact vN (us:=.ref a :: us) (vs:=.ref a :: vs) F hr hb hd hx I2 (.cons rfl r) q2
theorem yB {pl:Sem Bool}(he:PE X o ta)(c:Cls X.K C)(hm:Meth X.K C m f)(F:bV X.prog X.w X.K X.mg X.base CX k f fd ps sp)(hr:cG k X.A)(hb:Binds X.K fd ps ds)(hd:Vals dvs ds)(hx:Passes CX X E)
  (ht:eval (.Call (.Attribute o m apos) [] [] pos) X.env=(do
   let ov <- eval o X.env
   standAt apos.atName
   let (f,first) <- holding [ov] (getMethod ov m pl)
   callWith pos f first (backTo pos (starEach [] X.env)) (backToKw pos (keywordEach [] X.env))):=by rfl) :
  PE X (.Call (.Attribute o m apos) [] [] pos) (abG C m sp dvs E ta aab):=by
 intro pins s σ H Q I h
 refine PySem.W.methodCall_KW (pl:=pl) (thn (he pins s σ H _ I h) λ u s1 ⟨x,H1,I1,rx,a,dx,fs,ex,ea,l,q⟩=>?_) ht
 subst ex
 obtain rfl:u=Value.ref a:=rx
 refine iA I1 ea c hm l ?_
 exact PySem.W.callWith_K0 (first:=[.ref a]) I1.kIn hm.kp (vN (us:=[.ref a]) (vs:=[.ref a]) F hr hb hd hx I1 (.cons rfl .nil) q)
structure Mk (K:PySem.W.Frag)(C f:Addr):Prop where
 makes:PySem.W.makesIn K C=true
 init:PySem.W.findIn K (.ref C) "__init__" = some (some (.ref f))
 fn:PySem.W.isFn K (.ref f)=true
 kp:PySem.W.keepIn K (.ref C)=true
theorem rV {pins:List (Addr×Obj)}{σ:St}{H:Hp}{s:Shared}{Q:VK}{us:List Value}{vs:List V}(M:Mk X.K C f)(F:bV X.prog X.w X.K X.mg X.base CX k f fd ps sp)(hr:cG (k+1) X.A)(hb:Binds X.K fd ps ds)(hd:Vals dvs ds)
  (hx:Passes CX X E)(I:Inv X pins σ H s)(r:Vals vs us)
  (h:∀ x dx,H x=none->H dx=none->dx≠x->sp (.ref x :: (vs++dvs)) (upd (upd H dx (.own x)) x (.ins C dx [])) (λ v H2=>v=.non/\Q (.ref x) H2) E) :
  wpAny (model X.prog X.w) X.A (call (.ref C) us) (EP X pins σ Q) X.xe s:=by
 have hq:=h (s.heap.objs.size+1) s.heap.objs.size (I.hok.fresh (Nat.le_succ _)) (I.hok.fresh (Nat.le_refl _)) (Nat.ne_of_lt (Nat.lt_succ_self _))
 have I2:=Inv.made (C:=C) I
 have r2:Vals (V.ref (s.heap.objs.size+1) :: (vs++dvs)) (Value.ref (s.heap.objs.size+1) :: (us++ds)):=.cons rfl (r.append hd)
 have hl:(Value.ref (s.heap.objs.size+1) :: us++ds).length=ps.length:=by
  have e:=r2.length
  rw [F.len _ _ _ _ hq] at e
  exact e.symm
 refine wpAny_call (sP (f:=f) I.kIn M.makes M.init (beq_iff_eq.mp M.fn) (codeAny_mono (F.run _ X.stack _ _ ⟨Value.ref (s.heap.objs.size+1) :: us,[]⟩ (Value.ref (s.heap.objs.size+1) :: (us++ds)) _ _ E (hr.make C us [])
  (I2.ac2.make C us []) (hb _ (Value.ref (s.heap.objs.size+1) :: us) I2.kIn hl) r2 hq) λ r s' hq'=>?_))
 cases r with
 | error e=>exact hx pins σ _ _ e s' I2 hq'
 | ok fl =>
  cases fl with
  | ret u =>
   obtain ⟨v,H',I3,rv,ev,q3⟩:=I2.after hq'
   subst ev
   exact ⟨rv,⟨V.ref (s.heap.objs.size+1),H',I3,rfl,q3⟩⟩
  | next=>exact False.elim hq'
  | brk=>exact False.elim hq'
  | cont=>exact False.elim hq'
theorem acE (M:Mk X.K C f)(F:bV X.prog X.w X.K X.mg X.base CX k f fd ps sp)(hr:cG (k+1) X.A)(hg:Gl X x)(hm:X.mg x=some (.ref C))(hb:Binds X.K fd ps ds)(hd:Vals dvs ds)(hx:Passes CX X E)
  (ha:PA X (e :: es) t)(hdb:(x == ("__debug__" : Str))=false:=by decide)(he:starEach (e :: es) X.env=(false,eval e X.env) :: starEach es X.env:=by rfl)(hpl:(backTo pos (starEach es X.env)).any (·.1)=false:=by rfl) :
  PE X (.Call (.Name x p) (e :: es) [] pos) (aeK C sp dvs E t):=by
 intro pins s σ H Q I h
 refine wpAny_Call_Name_kw (gB I hg hm ?_ hdb)
 refine PySem.W.callWith_K (h₀:=X.base) I.ok.mod.kin M.kp (thn (ha pos pins s σ H _ I h) λ us s1 ⟨vs,H1,I1,r,q⟩=>⟨I1.kIn,?_⟩) he hpl
 exact rV M F hr hb hd hx I1 r q
theorem yI (M:Mk X.K C f)(F:bV X.prog X.w X.K X.mg X.base CX k f fd ps sp)(hr:cG (k+1) X.A)(hg:Gl X x)(hm:X.mg x=some (.ref C))(hb:Binds X.K fd ps ds)(hd:Vals dvs ds)(hx:Passes CX X E)
  (hdb:(x == ("__debug__" : Str))=false:=by decide):PE X (.Call (.Name x p) [] [] pos) (aeK C sp dvs E aab):=by
 intro pins s σ H Q I h
 refine wpAny_Call_Name_kw (gB I hg hm ?_ hdb)
 exact PySem.W.callWith_K0 I.kIn M.kp (rV (us:=[]) M F hr hb hd hx I .nil h)
end
def PK (X:Cx)(kws:List Keyword)(t:TA):Prop :=
 ∀ (pos:Pos) (pins:List (Addr×Obj)) (s:Shared) (σ:St) (H:Hp) (Q:List V->Hp->Prop),Inv X pins σ H s->t σ H Q->wpAny (model X.prog X.w) X.A (evalAll ((backToKw pos (keywordEach kws X.env)).map (·.2))) (AP X pins σ Q) X.xe s
section
variable {X:Cx}{CX:CXT}{k:Nat}{f C:Addr}{fd:FuncData}{ps ks:List Str}{sp:Sp}{E:XK}{x m:Str}{p pos apos kpos:Pos}{e o:Expr}{es:List Expr}{kws:List Keyword}{te ta:TE}{t tk:TA}{nm:Option Str}
theorem aec:PK X [] aab:=λ _ _ _ _ H Q I h=>wpAny_evalAll_nil ⟨[],H,I,.nil,h⟩
theorem abw (ha:PE X e te)(hr:PK X kws t):PK X (⟨nm,e,kpos⟩ :: kws) (uc te t):=by
 intro pos pins s σ H Q I h
 show wpAny _ _ (evalAll ((do let v <- eval e X.env; standAt pos; pure v) :: (backToKw pos (keywordEach kws X.env)).map (·.2))) _ _ s
 refine wpAny_evalAll_cons (wpAny_bind (thn (ha pins s σ H _ I h) λ u s1 ⟨x,H1,I1,r1,q1⟩=>wpAny_bind (wpAny_standAt (wpAny_pure ?_))))
 exact thn (hr pos pins s1 σ H1 _ I1 q1) λ us s2 ⟨xs,H2,I2,r2,q2⟩=>⟨x :: xs,H2,I2,.cons r1 r2,q2⟩
variable {g:List Value->List Value->List Value}{gV:List V->List V->List V}
end
structure aG (N P:List Str)(sc:Scope):Prop where
 kind:sc.kind=.function
 co:sc.isCoroutine=false
 gen:sc.isGenerator=false
 nd:N.Nodup
 pre:N.take P.length=P
 par:∀ x∈P,sc.names.lookup x=some .local\/sc.names.lookup x=some .cell
 nofree:∀ y∈sc.names,y.2 ≠ .free
theorem px {kindOf:Str->Option NameKind}{x:Str}:∀ {binds:List (Str×Value)} {m:Str->Option Value},(∀ v,(x,v) ∉ binds)->bindL kindOf binds m x=m x
 | [],_,_=>rfl
 | (n,v) :: r,m,h=>by
  unfold bindL
  rw [px λ w hw=>h w (List.mem_cons_of_mem _ hw)]
  split
  ·have:x≠n:=by rintro rfl; exact h v List.mem_cons_self
   simp [this]
  ·rfl
theorem pB {kindOf:Str->Option NameKind}{x:Str}:∀ {binds:List (Str×Value)} {m:Str->Option Value},(∀ v,(x,v) ∉ binds)->bindC kindOf binds m x=m x
 | [],_,_=>rfl
 | (n,v) :: r,m,h=>by
  unfold bindC
  rw [pB λ w hw=>h w (List.mem_cons_of_mem _ hw)]
  split
  ·rfl
  ·have:x≠n:=by rintro rfl; exact h v List.mem_cons_self
   simp [this]
theorem pA {kindOf:Str->Option NameKind}{x:Str}{v:Value}:∀ {P:List Str} {vs:List Value} {i:Nat} {m:Str->Option Value},P.Nodup->P[i]? = some x->vs[i]? = some v->kindOf x=some .local ->
  bindL kindOf (P.zip vs) m x=some v
 | [],_,_,_,_,h,_,_=>by simp at h
 | _ :: _,[],_,_,_,_,h,_=>by simp at h
 | p :: P,w :: vs,0,m,nd,h1,h2,hk=>by
  simp at h1 h2; subst h1; subst h2
  show bindL kindOf ((p,w) :: P.zip vs) m p=_
  unfold bindL
  rw [px λ v hv=>(List.nodup_cons.mp nd).1 (List.of_mem_zip hv).1,if_pos hk]
  simp
 | p :: P,w :: vs,i+1,m,nd,h1,h2,hk=>by
  show bindL kindOf ((p,w) :: P.zip vs) m x=_
  unfold bindL
  exact pA (i:=i) (List.nodup_cons.mp nd).2 (by simpa using h1) (by simpa using h2) hk
theorem pL {kindOf:Str->Option NameKind}{x:Str}{v:Value}:∀ {P:List Str} {vs:List Value} {i:Nat} {m:Str->Option Value},P.Nodup->P[i]? = some x->vs[i]? = some v->kindOf x≠some .local ->
  bindC kindOf (P.zip vs) m x=some v
 | [],_,_,_,_,h,_,_=>by simp at h
 | _ :: _,[],_,_,_,_,h,_=>by simp at h
 | p :: P,w :: vs,0,m,nd,h1,h2,hk=>by
  simp at h1 h2; subst h1; subst h2
  show bindC kindOf ((p,w) :: P.zip vs) m p=_
  unfold bindC
  rw [pB λ v hv=>(List.nodup_cons.mp nd).1 (List.of_mem_zip hv).1,if_neg hk]
  simp
 | p :: P,w :: vs,i+1,m,nd,h1,h2,hk=>by
  show bindC kindOf ((p,w) :: P.zip vs) m x=_
  unfold bindC
  exact pL (i:=i) (List.nodup_cons.mp nd).2 (by simpa using h1) (by simpa using h2) hk
def start (N:List Str)(vs:List V):St:=vs.map some++List.replicate (N.length - vs.length) none
def uz (CX:CXT)(P:Program)(w:World)(K:PySem.W.Frag)(mg:Str->Option Value)(base:Heap)(N:List Str)(qual:Str)(scope:Scope)(f:Addr)(cd:Value)(A:Around)(outer:List Env)(s:Shared)(H:Hp)(E:XK):Cx where
 prog:=P
 w:=w
 K:=K
 mg:=mg
 base:=base
 A:=A.deeper (envOfC qual scope s.heap.objs.size f cd)
 N:=N
 s₀:=s
 H₀:=H
 env:=envOfC qual scope s.heap.objs.size f cd
 outer:=outer
 stack:=envOfC qual scope s.heap.objs.size f cd :: outer
 ex:=[]
 calm:=true
 fn:=λ _=>true
 pn:=[]
 xe:=λ e s'=>wpAny (model P w) (A.deeper (envOfC qual scope s.heap.objs.size f cd)) (leaving (envOfC qual scope s.heap.objs.size f cd) e) (λ _ s''=>CX outer H s E e s'') (λ e' s''=>CX outer H s E e' s'') s'
theorem rY {sc:Scope}{n:Nat}{x:Str}(h:sc.names.lookup x=some .cell):∃ c,(cellsFrom n sc.names []).lookup x=some c:=by
 have q:=PySem.W.cellsFrom_some sc.names n [] (.inl h)
 exact Option.isSome_iff_exists.mp q
theorem vL {CX:CXT}{P:Program}{w:World}{K:PySem.W.Frag}{mg:Str->Option Value}{base:Heap}{N ps:List Str}{qual:Str}{scope:Scope}{f:Addr}{cd:Value}{A:Around}{outer:List Env}{s s1:Shared}{H:Hp}{E:XK}{us:List Value}{vs:List V}
  (S:aG N ps scope)(hd:A.handled=none)(e0:aat P w K mg base A outer s H)(hl:vs.length=ps.length)(r:Vals vs us)
  (x:InCallC s s.heap.objs.size (bindL (envOfC qual scope s.heap.objs.size f cd).kindOf (ps.zip us) λ _=>none) (cellsFrom (s.heap.objs.size+1) scope.names []) (bindC (envOfC qual scope s.heap.objs.size f cd).kindOf (ps.zip us) λ _=>none) s1) :
  Inv (uz CX P w K mg base N qual scope f cd A outer s H E) [] (start N vs) H s1:=by
 have hpl:ps.length<=N.length:=by have:=congrArg List.length S.pre; rw [List.length_take] at this; omega
 obtain ⟨h1,tk,rfl,hk⟩:=x.done
 have noA:∀ b:Addr,b ∉ (uz CX P w K mg base N qual scope f cd A outer s H E).ex:=λ b z=>absurd (show b∈([]:List Addr) from z) (by simp)
 refine ⟨⟨e0.mod,S.kind,rfl,rfl,Nat.le_refl _,λ y z c h1 h2=>?_,λ y hy=>?_,λ y c _ h=>?_,λ _=>hd,Around.frames_deeper e0.frames,.inr ⟨rfl,rfl⟩,λ b z=>absurd z (noA b),e0.bs,e0.bsz,λ b _ _=>noA b,λ b z=>absurd z (noA b),e0.nN,e0.frf⟩,
  rfl,e0.bare,Un.kept hk,⟨_,x.toInCall.ns,λ i y v h1 h2 h3=>?_⟩,λ y c h=>⟨_,x.cell y c h⟩,e0.hok.fresh (Nat.le_refl _),λ y c h=>?_,λ p hp=>absurd (show p∈([]:List (Addr×Obj)) from hp) (by simp),e0.hok.kept hk,?_⟩
 ·exact name_of_addr x.apart (PySem.mem_of_lookup h1) (PySem.mem_of_lookup h2)
 ·have hy:scope.names.lookup y=some .cell\/scope.names.lookup y=some .free:=hy
  rcases hy with hy | hy
  ·exact rY hy
  ·exact absurd rfl (S.nofree _ (PySem.mem_of_lookup hy))
 ·exact Nat.le_of_lt (x.above y c (PySem.mem_of_lookup h))
 ·have hi:i < vs.length:=by
   unfold start at h2
   by_cases hi:i < vs.length
   ·exact hi
   ·rw [List.getElem?_append_right (by simpa using hi)] at h2
    rw [List.getElem?_replicate] at h2
    split at h2 <;> cases h2
  have ha:vs[i]? = some v:=by
   unfold start at h2
   rw [List.getElem?_append_left (by simpa using hi),List.getElem?_map] at h2
   cases e:vs[i]? with
   | none=>rw [e] at h2; cases h2
   | some a=>rw [e] at h2; cases h2; rfl
  obtain ⟨u,hu,rv⟩:=r.get ha
  have hp:ps[i]? = some y:=by
   rw [<- S.pre,List.getElem?_take_of_lt (by omega)]; exact h1
  have ndP:ps.Nodup:=by rw [<- S.pre]; exact S.nd.sublist (List.take_sublist _ _)
  refine ⟨u,rv,?_⟩
  rcases S.par y (List.mem_of_getElem? hp) with k | k
  ·exact .inl ⟨k,pA ndP hp hu k⟩
  ·obtain ⟨c,e⟩:=rY (n:=s.heap.objs.size+1) k
   refine .inr ⟨.inl k,c,e,?_⟩
   have q:=x.cell y c e
   rw [pL ndP hp hu (by show scope.names.lookup y≠_; rw [k]; decide)] at q
   exact q
 ·exact e0.hok.fresh (Nat.le_of_lt (x.above y c (PySem.mem_of_lookup h)))
 ·unfold start
  show _=N.length
  rw [List.length_append,List.length_map,List.length_replicate]
  omega
theorem yR {CX:CXT}{P:Program}{w:World}{K:PySem.W.Frag}{mg:Str->Option Value}{base:Heap}{k:Nat}{f:Addr}{name qual:Str}{params:Arguments}{body:List Stmt}{scope:Scope}{dV kV doc pm cdv ct oc:Value}{an od:Option Addr}
  {osl:Array (Option Value)}{N ps:List Str}{sp:Sp}(lk:K.lookup f=some ⟨oc,od,.func (PySem.W.fnOf name qual params body scope dV kV doc pm an cdv ct),osl⟩)(hcd:PySem.W.codeIn K cdv qual=true)(S:aG N ps scope)
  (len:∀ vs H Q E,sp vs H Q E->vs.length=ps.length)
  (hbody:∀ (A:Around) (outer:List Env) (s:Shared) (H:Hp) (vs:List V) (Q:VK) (E:XK),cG k (A.deeper (envOfC qual scope s.heap.objs.size f cdv))->sp vs H Q E ->
   ∃ t,PSs (uz CX P w K mg base N qual scope f cdv A outer s H E) body t/\t { nx:=λ _ H'=>Q .non H',rt:=Q } (start N vs) H) :
  bV P w K mg base CX (k+1) f (PySem.W.fnOf name qual params body scope dV kV doc pm an cdv ct) ps sp:=by
 refine ⟨len,λ A outer s H args us vs Q E hr e0 hb r hsp=>?_⟩
 have hl:=len _ _ _ _ hsp
 have KX:K.In s.heap:=e0.mod.kin.keeps λ b o e=>(e0.bs b o e).1
 have lim:s.heap.NoLimit:=e0.mod.nolimit.keeps λ b o e=>(e0.bs b o e).1
 have hkind:∀ y∈ps.zip us,scope.names.lookup y.1=some .local\/(scope.names.lookup y.1=some .cell/\((cellsFrom (s.heap.objs.size+1) scope.names []).lookup y.1).isSome=true):=λ ⟨n,v⟩ hy=>by
  rcases S.par n (List.of_mem_zip hy).1 with q | q
  ·exact .inl q
  ·exact .inr ⟨q,PySem.W.cellsFrom_some _ _ _ (.inl q)⟩
 refine codeAny_call_function hr.depth (KX _ _ lk) rfl S.co S.gen rfl (PySem.W.codeRec_of KX hcd) (hb _ _ _ _ ?_)
 refine wpAny_newFunctionEnv_cells S.kind hkind λ env he s1 x=>?_
 subst he
 refine ⟨lim.keeps x.toInCall.keep,codeAny_func ?_⟩
 obtain ⟨t,ht,hq⟩:=hbody A outer s H vs Q E (hr.deeper _) hsp
 have I:Inv (uz CX P w K mg base N qual scope f cdv A outer s H E) [] (start N vs) H s1:=vL S hr.hd e0 hl r x
 refine wpAny_mono (ht [] s1 (start N vs) H _ I hq) (λ fl s' hs=>?_) λ e s' hs=>hs
 have fin:∀ {σ':St} {H':Hp} {v:V} {u:Value},Inv (uz CX P w K mg base N qual scope f cdv A outer s H E) [] σ' H' s'->RelV v u->Q v H'->CE outer P w H s Q u s' :=
  λ {σ' H' v u} J rv q=>⟨v,H',J.os,J.bare,J.base,J.hok,rv,q⟩
 cases fl with
 | ret u =>
  obtain ⟨v,σ',H',J,rv,q⟩:=hs
  exact fin J rv q
 | next =>
  obtain ⟨σ',H',J,q⟩:=hs
  exact fin (v:=V.non) (u:=Value.none) J rfl q
 | brk =>
  obtain ⟨_,_,_,q⟩:=hs
  exact False.elim q
 | cont =>
  obtain ⟨_,_,_,q⟩:=hs
  exact False.elim q
end L2
namespace L2
open PySem PySem.Spec PyProof.Rows
section
variable {X:Cx}{x:Str}{p pos:Pos}{e:Expr}{es:List Expr}{t:TA}{id T:String}{r:List V->Hp->VK->Prop}
def tCB (r:List V->Hp->VK->Prop)(t:TA):TE:=λ σ H Q=>t σ H λ vs H1=>r vs H1 Q
theorem jl (hc:dY X (.builtin id) r)(hg:Gl X x)(hm:X.mg x=none)(hv:bootBuiltins x=some (.builtin id))(ha:PA X (e :: es) t)(hn:x ≠ "__name__" := by decide)(hdb:(x == ("__debug__" : Str))=false:=by decide)
  (he:starEach (e :: es) X.env=(false,eval e X.env) :: starEach es X.env:=by rfl)(hpl:(backTo pos (starEach es X.env)).any (·.1)=false:=by rfl):PE X (.Call (.Name x p) (e :: es) [] pos) (tCB r t):=by
 intro pins s σ H Q I h
 refine wpAny_Call_Name_kw (lN I hg hm hv ?_ hn hdb)
 exact PyProof.Rows.callWith_builtin1 (thn (ha pos pins s σ H _ I h) λ us s1 ⟨vs,H1,I1,r1,q1⟩=>hc pins s1 σ H1 vs us Q I1 r1 q1) he hpl
theorem wm (hc:dY X (.type T) r)(hg:Gl X x)(hm:X.mg x=none)(hv:bootBuiltins x=some (.type T))(ha:PA X (e :: es) t)(hn:x ≠ "__name__" := by decide)(hdb:(x == ("__debug__" : Str))=false:=by decide)
  (he:starEach (e :: es) X.env=(false,eval e X.env) :: starEach es X.env:=by rfl)(hpl:(backTo pos (starEach es X.env)).any (·.1)=false:=by rfl):PE X (.Call (.Name x p) (e :: es) [] pos) (tCB r t):=by
 intro pins s σ H Q I h
 refine wpAny_Call_Name_kw (lN I hg hm hv ?_ hn hdb)
 exact PyProof.Rows.callWith_type1 (thn (ha pos pins s σ H _ I h) λ us s1 ⟨vs,H1,I1,r1,q1⟩=>hc pins s1 σ H1 vs us Q I1 r1 q1) he hpl
end
end L2
namespace HT
open PySem PyProof.Rows
section
open PySem.SeqAt
open PySem.AutoSeq1 (wpAny_loadPart')
open PySem.MeetsSeq PySem.MeetsSeq2 PySem.MeetsSeq3
end
section
variable {prog:Program}{w:World}{A:Around}{E:Value->Shared->Prop}{s:Shared}
def sIx (n d:Nat):Option Int->Nat
 | none=>d
 | some v=>if v < 0 then (v+(n:Int)).toNat else min v.toNat n
theorem ad6 (n d:Nat)(hd:d<=n)(o:Option Int):sIx n d o<=n:=by
 cases o with
 | none=>exact hd
 | some v =>
  show (if v < 0 then (v+(n:Int)).toNat else min v.toNat n)<=n
  by_cases hv:v < 0
  ·rw [if_pos hv]; omega
  ·rw [if_neg hv]; exact Nat.min_le_right _ _
theorem wO (v:Int)(n d:Nat):(if v < 0 then max (v+(n:Int)) 0 else min v (n:Int))=((sIx n d (some v):Nat):Int):=by
 show (if v < 0 then max (v+(n:Int)) 0 else min v (n:Int))=(((if v < 0 then (v+(n:Int)).toNat else min v.toNat n):Nat):Int)
 by_cases hv:v < 0
 ·simp only [if_pos hv]; omega
 ·simp only [if_neg hv]; omega
theorem uW (lo hi:Option Int)(n:Nat):Builtin.Slice.sliceAdjust lo hi 1 (n:Int)=(((sIx n 0 lo:Nat):Int),((sIx n n hi:Nat):Int)):=by
 have h1:¬ ((1:Int) < 0):=by omega
 unfold Builtin.Slice.sliceAdjust
 simp only [h1,if_false]
 refine Prod.ext ?_ ?_
 ·cases lo with
  | none=>rfl
  | some v=>exact wO v n 0
 ·cases hi with
  | none=>rfl
  | some v=>exact wO v n n
theorem ux (i j:Nat):Builtin.Slice.slicePlaces (i:Int) (j:Int) 1=j - i:=by
 unfold Builtin.Slice.slicePlaces
 have h1:(1:Int) > 0:=by omega
 simp only [h1,if_true,Int.ediv_one]
 split <;> omega
theorem k7 {v:Value}{o:Option Int}{Q:Option Int->Shared->Prop}(p:IsPart v o)(h:Q o s):wpAny (model prog w) A (Builtin.Slice.slicePartIndex v) Q E s:=by
 cases p with
 | none=>exact slicePart_none h
 | int i t=>exact slicePart_int h
theorem ja {sl:Addr}{vl vu:Value}{lo hi:Option Int}{n:Nat}{Q:Int×Int×Nat->Shared->Prop}(hs:s.heap.IsSliceOf sl vl vu .none)(pl:IsPart vl lo)(pu:IsPart vu hi)
  (h:Q (((sIx n 0 lo:Nat):Int),1,sIx n n hi - sIx n 0 lo) s):wpAny (model prog w) A (Builtin.Slice.sliceApplied (.ref sl) (pure (n:Int))) Q E s:=by
 obtain ⟨os,hos,hcs,hds⟩:=id hs
 unfold Builtin.Slice.sliceApplied Builtin.Slice.sliceFields
 refine wpAny_bind (wpAny_bind (wpAny_field hos hds (x:=vl) rfl (wpAny_bind (wpAny_field hos hds (x:=vu) rfl (wpAny_bind (wpAny_field hos hds (x:=.none) rfl (wpAny_pure ?_)))))))
 refine wpAny_bind (slicePart_none ?_)
 show wpAny _ _ (if ((1:Int) == 0)=true then _ else _) _ _ s
 rw [if_neg (by decide)]
 refine wpAny_bind (k7 pl (wpAny_bind (k7 pu (wpAny_bind (wpAny_pure ?_)))))
 show wpAny _ _ (match Builtin.Slice.sliceAdjust lo hi 1 (n:Int) with | (lo,hi)=>pure (lo,(1:Int),Builtin.Slice.slicePlaces lo hi 1)) _ _ s
 rw [uW lo hi n]
 show wpAny _ _ (pure (((sIx n 0 lo:Nat):Int),(1:Int),Builtin.Slice.slicePlaces ((sIx n 0 lo:Nat):Int) ((sIx n n hi:Nat):Int) 1)) _ _ s
 rw [ux]
 exact wpAny_pure h
theorem zL (xs:Array Value)(i k:Nat):((List.range k).filterMap λ (m:Nat)=>xs[((i:Int)+(m:Int) * 1).toNat]?).toArray=((xs.toList.drop i).take k).toArray:=by
 have e:(λ (m:Nat)=>xs[((i:Int)+(m:Int) * 1).toNat]?)=λ m=>xs[i+m]?:=by
  funext m
  have:((i:Int)+(m:Int) * 1).toNat=i+m:=by omega
  rw [this]
 rw [e]
 have:=pick_run xs i k
 rw [List.filterMap_map] at this
 have e2:((λ x=>xs[x]?) ∘ λ x=>i+x)=λ m=>xs[i+m]?:=rfl
 rw [e2] at this
 rw [this]
theorem iG {t sl:Addr}{items:Array Value}{vl vu:Value}{lo hi:Option Int}{Q:Value->Shared->Prop}(ht:IsTup s.heap t items)(hs:s.heap.IsSliceOf sl vl vu .none)(pl:IsPart vl lo)(pu:IsPart vu hi)
  (hw:¬ (sIx items.size 0 lo=0/\sIx items.size items.size hi=items.size))
  (h:Q (.ref s.heap.objs.size) { s with heap:=s.heap.push { cls:=.type "tuple",data:=.seq ((items.toList.drop (sIx items.size 0 lo)).take (sIx items.size items.size hi - sIx items.size 0 lo)).toArray } })
  (hsz:items.size<=sizeLine):wpAny (model prog w) A (getItem (.ref t) (.ref sl)) Q E s:=by
 have htake:sizeOk (.seq ((items.toList.drop (sIx items.size 0 lo)).take (sIx items.size items.size hi - sIx items.size 0 lo)).toArray):=by
  show ((items.toList.drop (sIx items.size 0 lo)).take (sIx items.size items.size hi - sIx items.size 0 lo)).toArray.size<=sizeLine
  rw [List.size_toArray,List.length_take,List.length_drop,Array.length_toList]
  omega
 have hj:sIx items.size items.size hi<=items.size:=ad6 _ _ (Nat.le_refl _) hi
 obtain ⟨os,hos,hcs,hds⟩:=id hs
 have hTs:s.TypeIs (.ref sl) "slice" := ⟨os,hos,hcs⟩
 unfold getItem
 try with_reducible refine wpAny_holding ?_
 first | refine wpAny_bind (wpAny_pure ?_) | skip
 refine wpAny_bind (wpAny_sequenceKey ht.typeIs (by decide) ?_)
 refine wpAny_bind (wpAny_callSpecial?_slot (name:=Str.ofString "__getitem__") ht.typeIs PyProof.Rows.slot_tuple_getitem
  (wpAny_call_entry PyProof.Rows.slot_tuple_getitem ht.typeIs entry_tuple_getitem ?_ (args_tuple_getitem _ _)))
 show wpAny _ _ (Builtin.Tuple.tupleItemsOf (.ref t) >>= _) _ _ s
 refine wpAny_bind (tupleItemsOf_ ht ?_)
 refine wpAny_bind (wpAny_typeOf hTs ?_)
 rw [if_pos (by decide)]
 refine wpAny_bind (ja hs pl pu ?_)
 have hno:¬ ((((sIx items.size 0 lo:Nat):Int) == 0 && (1:Int) == 1 && (sIx items.size items.size hi - sIx items.size 0 lo) == items.size)=true):=by
  intro q
  rw [Bool.and_eq_true,Bool.and_eq_true] at q
  have q1:((sIx items.size 0 lo:Nat):Int)=0:=eq_of_beq q.1.1
  have q2:sIx items.size items.size hi - sIx items.size 0 lo=items.size:=eq_of_beq q.2
  exact hw ⟨by omega,by omega⟩
 show wpAny _ _ (if (((sIx items.size 0 lo:Nat):Int) == 0 && (1:Int) == 1 && (sIx items.size items.size hi - sIx items.size 0 lo) == items.size)=true then _ else _) _ _ s
 rw [if_neg hno,zL]
 first
  | exact wpAny_bind (m:=Builtin.Tuple.tupleExact _) (wpAny_newObj_type (wpAny_pure ⟨_,rfl,wpAny_pure h⟩) htake)
  | exact wpAny_bind (m:=Builtin.Tuple.tupleExact _) (wpAny_newObj_type (wpAny_bind (wpAny_pure (wpAny_pure ⟨_,rfl,wpAny_pure h⟩))) htake)
  | exact wpAny_bind (wpAny_bind (m:=Builtin.Tuple.tupleExact _) (wpAny_newObj_type (wpAny_pure (wpAny_pure ⟨_,rfl,wpAny_pure h⟩)) htake))
  | exact wpAny_bind (wpAny_bind (m:=Builtin.Tuple.tupleExact _) (wpAny_newObj_type (wpAny_pure ⟨_,rfl,wpAny_pure h⟩) htake))
end
end HT
namespace L2
open PySem PySem.Spec PyProof.Rows
abbrev TO:=St->Hp->(Option Int->Hp->Prop)->Prop
def PO (X:Cx)(e:Option Expr)(t:TO):Prop :=
 ∀ (pins:List (Addr×Obj)) (s:Shared) (σ:St) (H:Hp) (Q:Option Int->Hp->Prop),Inv X pins σ H s->t σ H Q ->
  wpAny (model X.prog X.w) X.A (evalPart e X.env) (λ u s'=>∃ o H',Inv X pins σ H' s'/\IsPart u o/\Q o H') X.xe s
def aci:TO:=λ _ H Q=>Q none H
def agf (t:TE):TO:=λ σ H Q=>t σ H λ x H1=>∃ i,x=.int i/\Q (some i) H1
section
variable {X:Cx}{e:Expr}{te:TE}{lo hi:Option Expr}{tl th:TO}{pos p2:Pos}
theorem abO:PO X none aci:=by
 intro pins s σ H Q I h
 rw [evalPart_none]
 exact wpAny_pure ⟨none,H,I,.none,h⟩
theorem abt (h:PE X e te):PO X (some e) (agf te):=by
 intro pins s σ H Q I hw
 rw [evalPart_some]
 refine thn (h pins s σ H _ I hw) λ u s1 hq23=>?_
 obtain ⟨x,H1,I1,r1,q1⟩:=hq23
 obtain ⟨i,rfl,q⟩:=q1
 obtain ⟨t,rfl⟩:=r1
 exact ⟨some i,H1,I1,.int i t,q⟩
def SlR (X:Cx)(r:V->Option Int->Option Int->Hp->VK->Prop):Prop :=
 ∀ (pins:List (Addr×Obj)) (s:Shared) (σ:St) (H:Hp) (x:V) (v vl vu:Value) (lo hi:Option Int) (sl:Addr) (Q:VK),Inv X pins σ H s->RelV x v->s.heap.IsSliceOf sl vl vu .none->IsPart vl lo->IsPart vu hi->r x lo hi H Q ->
  ∃ T id,typeLookup (.type T) "__getitem__" = pure (some (.builtin id))/\s.TypeIs v T/\wpAny (model X.prog X.w) X.A (getItem v (.ref sl)) (EP X pins σ Q) X.xe s
theorem SlR.or {r r':V->Option Int->Option Int->Hp->VK->Prop}(h:SlR X r)(h':SlR X r'):SlR X (λ x lo hi H Q=>r x lo hi H Q\/r' x lo hi H Q):=by
 intro pins s σ H x v vl vu lo hi sl Q I rx hs pl pu q
 rcases q with q | q
 ·exact h pins s σ H x v vl vu lo hi sl Q I rx hs pl pu q
 ·exact h' pins s σ H x v vl vu lo hi sl Q I rx hs pl pu q
def tSl (r:V->Option Int->Option Int->Hp->VK->Prop)(te:TE)(tl th:TO):TE:=λ σ H Q=>te σ H λ x H1=>tl σ H1 λ l H2=>th σ H2 λ u H3=>r x l u H3 Q
theorem tE {r:V->Option Int->Option Int->Hp->VK->Prop}(hr:SlR X r)(he:PE X e te)(hl:PO X lo tl)(hu:PO X hi th):PE X (.Subscript e (.Slice lo hi none p2) pos) (tSl r te tl th):=by
 intro pins s σ H Q I h
 refine Subscript_ (thn (he pins s σ H _ I h) λ v s1 hq24=>?_)
 obtain ⟨x,H1,I1,r1,q1⟩:=hq24
 refine wpAny_Slice (thn (hl pins s1 σ H1 _ I1 q1) λ vl s2 ⟨l,H2,I2,pl,q2⟩=>thn (hu pins s2 σ H2 _ I2 q2) λ vu s3 hq25=>?_)
 obtain ⟨u,H3,I3,pu,q3⟩:=hq25
 rw [evalPart_none]
 refine wpAny_pure ?_
 have I4:Inv X pins σ H3 { s3 with heap:=s3.heap.push { cls:=.type "slice",data:=.fields #[vl,vu,.none] } }:=I3.kept (t':=s3.toks) λ b ob q=>Heap.get?_push_of_some _ q
 obtain ⟨T,id,hT,ht,hg⟩:=hr pins { s3 with heap:=s3.heap.push { cls:=.type "slice",data:=.fields #[vl,vu,.none] } } σ H3 x v vl vu l u s3.heap.objs.size Q I4 r1 (Heap.IsSliceOf.new ..) pl pu q3
 show wpAny (model X.prog X.w) X.A (subscriptTail e (.Slice lo hi none p2) v (.ref s3.heap.objs.size)) (EP X pins σ Q) X.xe { s3 with heap:=s3.heap.push { cls:=.type "slice",data:=.fields #[vl,vu,.none] } }
 exact tail_any (ops:=[.ref s3.heap.objs.size,v]) ht hT hg (by with_unfolding_all rfl)
def xl (xs:List V)(lo hi:Option Int):List V:=(xs.drop (HT.sIx xs.length 0 lo)).take (HT.sIx xs.length xs.length hi - HT.sIx xs.length 0 lo)
theorem jB (xs:List V)(lo hi:Option Int):(xl xs lo hi).length<=xs.length:=by
 unfold xl
 rw [List.length_take,List.length_drop]
 omega
def agD (K:PySem.W.Frag):V->Option Int->Option Int->Hp->VK->Prop:=λ x lo hi H Q=>∃ a xs,x=.ref a/\SqT K H a xs /\
 ¬ (HT.sIx xs.length 0 lo=0/\HT.sIx xs.length xs.length hi=xs.length)/\∀ p,H p=none->Q (.ref p) (upd H p (.tup (xl xs lo hi)))
theorem aeb:SlR X (agD X.K):=by
 intro pins s σ H x v vl vu lo hi sl Q I rx hs pl pu h
 obtain ⟨a,xs,rfl,hx,hw,q⟩:=h
 cases rx
 obtain ⟨its,r,ht,hz⟩:=I.tuple hx
 have hlen:its.toArray.size=xs.length:=by rw [List.size_toArray]; exact r.length.symm
 refine ⟨"tuple",_,PyProof.Rows.slot_tuple_getitem.lookup,ht.typeIs,?_⟩
 refine HT.iG ht hs pl pu (by rw [hlen]; exact hw) ?_ (by rw [hlen]; exact hz)
 rw [hlen]
 refine ⟨.ref s.heap.objs.size,_,I.laid (t':=s.toks) (o:=.tup (xl xs lo hi)) (λ b ob q=>Heap.get?_push_of_some _ q) (Nat.le_refl _) ?_,rfl,q _ (I.hok.fresh (Nat.le_refl _))⟩
 exact ⟨Nat.le_trans (jB xs lo hi) hz,_,(r.drop (HT.sIx xs.length 0 lo)).take (HT.sIx xs.length xs.length hi - HT.sIx xs.length 0 lo),aaH.new _ _⟩
end
end L2
namespace L2
open PySem PySem.Spec PyProof.Rows
def ixN (n:Nat)(i:Int):Option Nat:=if 0<=i then (if i < n then some i.toNat else none) else if -(n:Int)<=i then some (i+n).toNat else none
def atI {α:Type}(xs:List α)(i:Int):Option α:=(ixN xs.length i).bind λ j=>xs[j]?
theorem yf {n:Nat}{i:Int}{j:Nat}(h:ixN n i=some j):seqIndex? i n=some j/\j < n/\-(n:Int)<=i/\i < n:=by
 unfold ixN at h
 by_cases h0:0<=i
 ·rw [if_pos h0] at h
  by_cases h1:i < n
  ·rw [if_pos h1] at h
   have e:i.toNat=j:=Option.some.inj h
   exact ⟨by rw [seqIndex_of h0 h1,e],by omega,by omega,h1⟩
  ·rw [if_neg h1] at h; cases h
 ·rw [if_neg h0] at h
  by_cases h1:-(n:Int)<=i
  ·rw [if_pos h1] at h
   have e:(i+n).toNat=j:=Option.some.inj h
   exact ⟨by rw [seqIndex_neg (by omega) h1,e],by omega,h1,by omega⟩
  ·rw [if_neg h1] at h; cases h
theorem mX {α:Type}{xs:List α}{i:Int}{v:α}(h:atI xs i=some v):∃ j,seqIndex? i xs.length=some j/\xs[j]? = some v/\j < xs.length/\-(xs.length:Int)<=i/\i < xs.length:=by
 unfold atI at h
 cases e:ixN xs.length i with
 | none=>rw [e] at h; cases h
 | some j =>
  rw [e] at h
  obtain ⟨h1,h2,h3,h4⟩:=yf e
  exact ⟨j,h1,h,h2,h3,h4⟩
theorem qp {α:Type}{xs:List α}{j:Nat}{v:α}(h:xs[j]? = some v):atI xs (j:Int)=some v:=by
 have hj:j < xs.length:=(List.getElem?_eq_some_iff.mp h).1
 have e:ixN xs.length (j:Int)=some j:=by
  unfold ixN
  rw [if_pos (by omega),if_pos (by omega)]; simp
 unfold atI; rw [e]; exact h
def rf (b:Expr):Prop:=∀ o i,subscripted b false o i=operate [o,i] (getItem o i)
def IxR (X:Cx)(r:R2):Prop :=
 ∀ (value slice:Expr) (pins:List (Addr×Obj)) (s:Shared) (σ:St) (H:Hp) (x y:V) (v u:Value) (Q:VK),Inv X pins σ H s->RelV x v->RelV y u->r x y H Q ->
  subscripted slice false v u=operate [v,u] (getItem v u)->wpAny (model X.prog X.w) X.A (subscriptTail value slice v u) (EP X pins σ Q) X.xe s
def MtR (X:Cx)(id:String)(r:V->List V->Hp->VK->Prop):Prop :=
 ∀ (pins:List (Addr×Obj)) (s:Shared) (σ:St) (H:Hp) (x:V) (xs:List V) (v:Value) (us:List Value) (Q:VK),Inv X pins σ H s->RelV x v->Vals xs us->r x xs H Q ->
  wpAny (model X.prog X.w) X.A (call (.builtin id) (v :: us)) (EP X pins σ Q) X.xe s
section
variable {X:Cx}{a b:Expr}{ta tb:TE}{pos:Pos}
theorem IxR.or {r r':R2}(h:IxR X r)(h':IxR X r'):IxR X (λ x y H Q=>r x y H Q\/r' x y H Q):=by
 intro value slice pins s σ H x y v u Q I rx ry q hs
 rcases q with q | q
 ·exact h value slice pins s σ H x y v u Q I rx ry q hs
 ·exact h' value slice pins s σ H x y v u Q I rx ry q hs
theorem agm {r:R2}(hr:IxR X r)(ha:PE X a ta)(hb:PE X b tb)(hs:rf b):PE X (.Subscript a b pos) (tOp r ta tb):=by
 intro pins s σ H Q I h
 exact Subscript_ (afV ha hb I h λ v u s2 x y H2 I2 rx ry q=>hr a b pins s2 σ H2 x y v u Q I2 rx ry q (hs _ _))
def agg (K:PySem.W.Frag):R2:=λ x y H Q=>∃ p xs i v,x=.ref p/\y=.int i/\SqL K H p xs/\atI xs i=some v/\Q v H
def agQ (K:PySem.W.Frag):R2:=λ x y H Q=>∃ p xs i v,x=.ref p/\y=.int i/\SqT K H p xs/\atI xs i=some v/\Q v H
def agB:R2:=λ x y H Q=>∃ z i c,x=.str z/\y=.int i/\z.length<=sizeLine/\atI z.cps.toList i=some c/\Q (.str ⟨#[c]⟩) H
theorem acz:IxR X (agg X.K):=by
 intro value slice pins s σ H x y v u Q I rx ry h hs
 obtain ⟨p,xs,i,z,rfl,rfl,hq,he,q⟩:=h
 cases rx
 obtain ⟨t,rfl⟩:=ry
 obtain ⟨its,r,pl,hz⟩:=I.list hq
 obtain ⟨j,h1,h2,h3,h4,h5⟩:=mX he
 obtain ⟨w,ew,rw'⟩:=r.get h2
 have hl:=r.length
 have hn:=kh
 have fin:EP X pins σ Q w s:=⟨z,H,I,rw',q⟩
 by_cases h0:0<=i
 ·have hj:i.toNat=j:=by
   rw [seqIndex_of h0 h5] at h1
   exact Option.some.inj h1
  exact item_listR pl.isList h0 (by omega) (by rw [hj]; simpa using ew) fin hs
 ·have hj:(i+(its.toArray.size:Int)).toNat=j:=by
   rw [seqIndex_neg (by omega) h4] at h1
   rw [List.size_toArray,<- hl]
   exact Option.some.inj h1
  exact subscriptTail_builtinR (x:=w) pl.isList.typeIs slot_list_getitem.lookup
   (wpAny_getItem_list_neg (Q:=λ r s'=>r=w/\EP X pins σ Q r s') pl.isList (by omega) (by rw [List.size_toArray] <;> omega) (by omega) (by rw [hj]; simpa using ew) ⟨rfl,fin⟩) hs
theorem adV:IxR X (agQ X.K):=by
 intro value slice pins s σ H x y v u Q I rx ry h hs
 obtain ⟨p,xs,i,z,rfl,rfl,hq,he,q⟩:=h
 cases rx
 obtain ⟨t,rfl⟩:=ry
 obtain ⟨its,r,pl,hz⟩:=I.tuple hq
 obtain ⟨j,h1,h2,h3,h4,h5⟩:=mX he
 obtain ⟨w,ew,rw'⟩:=r.get h2
 have hl:=r.length
 have hn:=kh
 have fin:EP X pins σ Q w s:=⟨z,H,I,rw',q⟩
 exact subscriptTail_builtinR (x:=w) pl.typeIs slot_tuple_getitem.lookup
  (getItem_tuple (j:=j) (Q:=λ r s'=>r=w/\EP X pins σ Q r s') pl (by omega) (by omega) (by rw [List.size_toArray,<- hl]; exact h1) (by simpa using ew) ⟨rfl,fin⟩) hs
theorem ac9:IxR X agB:=by
 intro value slice pins s σ H x y v u Q I rx ry h hs
 obtain ⟨z,i,c,rfl,rfl,hz,he,q⟩:=h
 obtain ⟨t,rfl⟩:=rx
 obtain ⟨t',rfl⟩:=ry
 obtain ⟨j,h1,h2,h3,h4,h5⟩:=mX he
 have hl:z.cps.toList.length=z.length:=by simp [Str.length]
 rw [hl] at h1 h4 h5
 have hn:=kh
 exact tail_any (typeIs_str s z t) slot_str_getitem.lookup (getItem_str (c:=c) (by
  have e1:decide (i < -(2 ^ 63:Int))=false:=decide_eq_false (by omega)
  have e2:decide (i >= 2 ^ 63)=false:=decide_eq_false (by omega)
  rw [e1,e2,Bool.or_false]) (by rw [h1]; simpa using h2) ⟨.str ⟨#[c]⟩,H,I.tok _,⟨_,rfl⟩,q⟩) hs
def rIx (K:PySem.W.Frag):R2:=λ x y H Q=>agg K x y H Q\/agQ K x y H Q\/agB x y H Q
theorem aU:IxR X (rIx X.K):=acz.or (adV.or ac9)
theorem ub (its:List Value)(n j:Nat)(u:Value):Obj.mapSeq (·.setIfInBounds j u) { cls:=.type "list",data:=.seq its.toArray n }={ cls:=.type "list",data:=.seq (its.set j u).toArray n }:=by
 simp [Obj.mapSeq]
theorem Inv.lst {pins:List (Addr×Obj)}{σ:St}{H:Hp}{s:Shared}{p:Addr}{xs:List V}(I:Inv X pins σ H s)(h:H p=some (.lst xs)) :
  ∃ (its:List Value) (n:Nat),Vals xs its/\s.heap.get? p=some { cls:=.type "list",data:=.seq its.toArray n }/\xs.length<=sizeLine:=by
 obtain ⟨z,its,n,r,e⟩:=I.hok p _ h
 exact ⟨its,n,r,e,z⟩
theorem Inv.aeY {pins:List (Addr×Obj)}{σ:St}{H:Hp}{s:Shared}{p:Addr}{xs ys:List V}{its its':List Value}{n n':Nat}{f:Obj->Obj}(I:Inv X pins σ H s)(h:H p=some (.lst xs))
  (ho:s.heap.get? p=some { cls:=.type "list",data:=.seq its.toArray n })(hf:f { cls:=.type "list",data:=.seq its.toArray n }={ cls:=.type "list",data:=.seq its'.toArray n' })(r:Vals ys its')(hz:ys.length<=sizeLine)(t:Nat) :
  Inv X pins σ (upd H p (.lst ys)) { s with heap:=s.heap.update p f,toks:=t }:=by
 have e:(s.heap.update p f).get? p=some { cls:=.type "list",data:=.seq its'.toArray n' }:=by
  rw [Heap.get?_update_self f ho (by rw [hf] <;> rfl),hf]
 refine I.write (x:=p) (e:=p) (by rw [h]; trivial) (.inl rfl) (λ b u hb q=>(Heap.get?_update_other _ _ (Ne.symm hb)).trans q) ⟨_,e⟩ ?_
 exact ⟨hz,its',n',r,e⟩
def agr:V->V->V->Hp->(Hp->Prop)->Prop:=λ o i v H Q=>∃ p xs k j,o=.ref p/\i=.int k/\H p=some (.lst xs)/\ixN xs.length k=some j/\Q (upd H p (.lst (xs.set j v)))
theorem set_list:afi X agr:=by
 intro pins s σ H o i v ov iv u Q I ro ri rv h
 obtain ⟨p,xs,k,j,rfl,rfl,hp,hj,q⟩:=h
 cases ro
 obtain ⟨t,rfl⟩:=ri
 obtain ⟨its,n,r,ho,hz⟩:=I.lst hp
 obtain ⟨h1,h2,h3,h4⟩:=yf hj
 have hl:=r.length
 have hn:=kh
 have I':Inv X pins σ (upd H p (.lst (xs.set j v))) { s with heap:=s.heap.update p (Obj.mapSeq (·.setIfInBounds j u)) } :=
  I.aeY hp ho (ub its n j u) (r.set rv j) (by rw [List.length_set]; exact hz) s.toks
 by_cases h0:0<=k
 ·have hk:k.toNat=j:=by
   rw [seqIndex_of h0 h4] at h1
   exact Option.some.inj h1
  exact PySem.W.ki_setAt ho h0 (by omega) (by rw [List.size_toArray,<- hl]; exact h4) (by rw [hk]; exact ⟨_,I',q⟩)
 ·have hk:(k+(its.toArray.size:Int)).toNat=j:=by
   rw [seqIndex_neg (by omega) h3] at h1
   rw [List.size_toArray,<- hl]
   exact Option.some.inj h1
  exact PySem.W.ki_setBack ho (by omega) (by rw [List.size_toArray,<- hl]; exact h3) (by omega) (by rw [hk]; exact ⟨_,I',q⟩)
theorem pF (lo hi:Option Int)(n:Nat):(sliceBounds lo hi none n).1=((HT.sIx n 0 lo:Nat):Int)/\(sliceBounds lo hi none n).2.1=((HT.sIx n n hi:Nat):Int)/\(sliceBounds lo hi none n).2.2=1:=by
 refine ⟨?_,?_,rfl⟩
 ·cases lo with
  | none=>simp [sliceBounds,HT.sIx]
  | some i =>
   simp only [sliceBounds,HT.sIx,Option.getD_none,show (1:Int) > 0 by decide,if_true]
   by_cases h:i < 0
   ·simp only [h,if_true] <;> omega
   ·simp only [h,if_false] <;> omega
 ·cases hi with
  | none=>simp [sliceBounds,HT.sIx]
  | some i =>
   simp only [sliceBounds,HT.sIx,Option.getD_none,show (1:Int) > 0 by decide,if_true]
   by_cases h:i < 0
   ·simp only [h,if_true] <;> omega
   ·simp only [h,if_false] <;> omega
theorem mY (its:List Value)(lo hi:Option Int):slicePick its.toArray lo hi none=((its.drop (HT.sIx its.length 0 lo)).take (HT.sIx its.length its.length hi - HT.sIx its.length 0 lo)).toArray:=by
 obtain ⟨h1,h2,h3⟩:=pF lo hi its.toArray.size
 unfold slicePick
 rw [h1,h2,h3]
 simp only [sliceRange_one,pick_run,List.size_toArray] <;> rfl
def agN (K:PySem.W.Frag):V->Option Int->Option Int->Hp->VK->Prop:=λ x lo hi H Q=>∃ a xs,x=.ref a/\SqL K H a xs/\∀ p,H p=none->Q (.ref p) (upd H p (.lst (xl xs lo hi)))
theorem vg:SlR X (agN X.K):=by
 intro pins s σ H x v vl vu lo hi sl Q I rx hs pl pu h
 obtain ⟨a,xs,rfl,hx,q⟩:=h
 cases rx
 obtain ⟨its,r,ht,hz⟩:=I.list hx
 have hlen:=r.length
 refine ⟨"list",_,slot_list_getitem.lookup,ht.isList.typeIs,?_⟩
 refine wpAny_getItem_list_slice ht.isList hs pl pu .none (by simp) ?_ (by rw [List.size_toArray] <;> omega)
 rw [mY,<- hlen]
 refine ⟨.ref s.heap.objs.size,_,I.laid (t':=s.toks) (o:=.lst (xl xs lo hi)) (λ b ob q=>Heap.get?_push_of_some _ q) (Nat.le_refl _) ?_,rfl,q _ (I.hok.fresh (Nat.le_refl _))⟩
 exact ⟨Nat.le_trans (jB xs lo hi) hz,_,0,(r.drop (HT.sIx xs.length 0 lo)).take (HT.sIx xs.length xs.length hi - HT.sIx xs.length 0 lo),Heap.get?_push_size _ rfl⟩
def kX:V->Bool
 | .non=>true
 | .bl _=>true
 | .int _=>true
 | .str _=>true
 | _=>false
def eqV:V->V->Bool
 | .non,.non=>true
 | .bl a,.bl b=>a == b
 | .bl a,.int b=>(if a then 1 else 0) == b
 | .int a,.bl b=>a == (if b then 1 else 0)
 | .int a,.int b=>a == b
 | .str a,.str b=>a == b
 | _,_=>false
theorem ad0 {A:Around}{s:Shared}{y x:V}{u v:Value}(ry:RelV y u)(rx:RelV x v)(fy:kX y=true)(fx:kX x=true):SeqAt.EqAt A s u v (eqV y x):=by
 cases y with
 | non =>
  cases ry
  cases x with
  | non=>cases rx; exact SeqAt.EqAt.same _
  | bl b=>cases rx; exact SeqAt.EqAt.none_bool b
  | int b=>obtain ⟨t,rfl⟩:=rx; exact SeqAt.EqAt.none_int b t
  | str b=>obtain ⟨t,rfl⟩:=rx; exact SeqAt.EqAt.none_str b t
  | _=>exact absurd (show false=true from fx) Bool.false_ne_true
 | bl a =>
  cases ry
  cases x with
  | non=>cases rx; exact SeqAt.EqAt.bool_none a
  | bl b=>cases rx; exact SeqAt.EqAt.bool_bool a b
  | int b=>obtain ⟨t,rfl⟩:=rx; exact SeqAt.EqAt.bool_int a b t
  | str b=>obtain ⟨t,rfl⟩:=rx; exact SeqAt.EqAt.bool_str a b t
  | _=>exact absurd (show false=true from fx) Bool.false_ne_true
 | int a =>
  obtain ⟨t',rfl⟩:=ry
  cases x with
  | non=>cases rx; exact SeqAt.EqAt.int_none a t'
  | bl b=>cases rx; exact SeqAt.EqAt.int_bool a t' b
  | int b=>obtain ⟨t,rfl⟩:=rx; exact SeqAt.EqAt.int_int a t' b t
  | str b=>obtain ⟨t,rfl⟩:=rx; exact SeqAt.EqAt.int_str a t' b t
  | _=>exact absurd (show false=true from fx) Bool.false_ne_true
 | str a =>
  obtain ⟨t',rfl⟩:=ry
  cases x with
  | non=>cases rx; exact SeqAt.EqAt.str_none a t'
  | bl b=>cases rx; exact SeqAt.EqAt.str_bool a t' b
  | int b=>obtain ⟨t,rfl⟩:=rx; exact SeqAt.EqAt.str_int a t' b t
  | str b=>obtain ⟨t,rfl⟩:=rx; exact SeqAt.EqAt.str_str a t' b t
  | _=>exact absurd (show false=true from fx) Bool.false_ne_true
 | _=>exact absurd (show false=true from fy) Bool.false_ne_true
def eqU (x:V)(u:Value):Bool:=match u with
 | .none=>eqV .non x
 | .bool b=>eqV (.bl b) x
 | .int i _=>eqV (.int i) x
 | .str z _=>eqV (.str z) x
 | _=>false
theorem aam {x y:V}{u:Value}(r:RelV y u)(f:kX y=true):eqU x u=eqV y x:=by
 cases y with
 | non=>cases r; rfl
 | bl b=>cases r; rfl
 | int i=>obtain ⟨t,rfl⟩:=r; rfl
 | str z=>obtain ⟨t,rfl⟩:=r; rfl
 | _=>exact absurd (show false=true from f) Bool.false_ne_true
theorem jY {x:V}:∀ {xs:List V} {us:List Value},Vals xs us->xs.all kX=true->us.any (eqU x)=xs.any λ y=>eqV y x
 | _,_,.nil,_=>rfl
 | y :: xs,u :: us,.cons r t,f=>by
  rw [List.all_cons,Bool.and_eq_true] at f
  rw [List.any_cons,List.any_cons,aam r f.1,jY t f.2]
theorem ib {A:Around}{s:Shared}{x:V}{v:Value}(rx:RelV x v)(fx:kX x=true):∀ {xs:List V} {us:List Value},Vals xs us->xs.all kX=true->∀ u∈us,SeqAt.EqAt A s u v (eqU x u)
 | _,_,.nil,_=>λ u hu=>by cases hu
 | y :: xs,u :: us,.cons r t,f=>λ u' hu=>by
  rw [List.all_cons,Bool.and_eq_true] at f
  rcases List.mem_cons.mp hu with rfl | hu
  ·rw [aam r f.1]; exact ad0 r rx f.1 fx
  ·exact ib rx fx t f.2 u' hu
def inV (x:V)(xs:List V):Bool:=xs.any λ y=>eqV y x
def rIn (K:PySem.W.Frag)(neg:Bool):R2:=λ x y H Q=>∃ p xs,y=.ref p/\(SqL K H p xs\/SqT K H p xs)/\kX x=true/\xs.all kX=true/\Q (.bl (if neg then !inV x xs else inV x xs)) H
theorem vM:OpR X (compareOp .In) (rIn X.K false):=by
 intro pins s σ H x y v u Q I rx ry h
 obtain ⟨p,xs,rfl,hq,fx,fs,q⟩:=h
 cases ry
 rcases hq with hq | hq
 ·obtain ⟨its,r,pl,hz⟩:=I.list hq
  refine SeqAt.in_listAt (eqU x) pl.isList (λ w hw=>ib rx fx r fs w (by simpa using hw)) ⟨.bl _,H,I,rfl,?_⟩
  rw [show its.toArray.any (eqU x)=its.any (eqU x) by simp,jY r fs]
  exact q
 ·obtain ⟨its,r,pl,hz⟩:=I.tuple hq
  refine SeqAt.in_tupleAt (eqU x) pl (λ w hw=>ib rx fx r fs w (by simpa using hw)) ⟨.bl _,H,I,rfl,?_⟩
  rw [show its.toArray.any (eqU x)=its.any (eqU x) by simp,jY r fs]
  exact q
theorem iW:OpR X (compareOp .NotIn) (rIn X.K true):=by
 intro pins s σ H x y v u Q I rx ry h
 obtain ⟨p,xs,rfl,hq,fx,fs,q⟩:=h
 cases ry
 rcases hq with hq | hq
 ·obtain ⟨its,r,pl,hz⟩:=I.list hq
  refine SeqAt.notIn_listAt (eqU x) pl.isList (λ w hw=>ib rx fx r fs w (by simpa using hw)) ⟨.bl _,H,I,rfl,?_⟩
  rw [show its.toArray.any (eqU x)=its.any (eqU x) by simp,jY r fs]
  exact q
 ·obtain ⟨its,r,pl,hz⟩:=I.tuple hq
  refine SeqAt.notIn_tupleAt (eqU x) pl (λ w hw=>ib rx fx r fs w (by simpa using hw)) ⟨.bl _,H,I,rfl,?_⟩
  rw [show its.toArray.any (eqU x)=its.any (eqU x) by simp,jY r fs]
  exact q
theorem dS:dY X (.type "list") (λ xs H Q=>∃ p ys,xs=[.ref p]/\(SqL X.K H p ys\/SqT X.K H p ys)/\∀ l,H l=none->Q (.ref l) (upd H l (.lst ys))):=by
 intro pins s σ H xs us Q I r h
 obtain ⟨p,ys,rfl,hq,q⟩:=h
 obtain ⟨u,rfl,rx⟩:=vals1 r
 cases rx
 have fin:∀ (its:List Value),Vals ys its->ys.length<=sizeLine->∀ (h':Heap) (c':Nat),(∀ b o',s.heap.get? b=some o'->h'.get? b=some o') ->
   h'.get? s.heap.objs.size=some { cls:=.type "list",dict:=none,data:=.seq its.toArray c',slots:=#[] }->EP X pins σ Q (.ref s.heap.objs.size) { s with heap:=h' }:=λ its r' hz h' c' kp e =>
  ⟨.ref s.heap.objs.size,_,I.laid (t':=s.toks) kp (Nat.le_refl _) (show bX X.prog X.w _ h' _ (.lst ys) from ⟨hz,its,c',r',e⟩),rfl,q _ (I.hok.fresh (Nat.le_refl _))⟩
 rcases hq with hq | hq
 ·obtain ⟨its,r',pl,hz⟩:=I.list hq
  have hlen:=r'.length
  obtain ⟨o,ho,hc,n,hd⟩:=pl.isList
  exact call_list_seq p (.inl rfl) ho hc hd (λ h' c' kp e=>fin its r' hz h' c' kp e) (by simp only [List.size_toArray] <;> omega)
 ·obtain ⟨its,r',pl,hz⟩:=I.tuple hq
  have hlen:=r'.length
  obtain ⟨o,ho,hc,n,hd⟩:=pl
  exact call_list_seq p (.inr rfl) ho hc hd (λ h' c' kp e=>fin its r' hz h' c' kp e) (by simp only [List.size_toArray] <;> omega)
def tyV (K:PySem.W.Frag)(T:String)(x:V)(H:Hp):Prop:=match x with
 | .str _=>T = "str"
 | .int _=>T = "int"
 | .ref p=>(T = "list" /\ ∃ xs,SqL K H p xs)\/(T = "tuple" /\ ∃ xs,SqT K H p xs) \/
   (T = "dict" /\ ((∃ kvs,H p=some (.dK kvs))\/∃ kvs,H p=some (.dT kvs)))\/(T = "set" /\ ∃ S n,H p=some (.set S n))
 | _=>False
theorem zS {pins:List (Addr×Obj)}{σ:St}{H:Hp}{s:Shared}{T:String}{x:V}{v:Value}(I:Inv X pins σ H s)(r:RelV x v)(ty:tyV X.K T x H) :
  s.TypeIs v T/\∀ a,v=.ref a->∃ ob,s.heap.get? a=some ob/\ob.dict=none:=by
 cases x with
 | str z =>
  obtain ⟨t,rfl⟩:=r
  cases (show T = "str" from ty)
  exact ⟨typeIs_str s z t,λ _ e=>nomatch e⟩
 | int i =>
  obtain ⟨t,rfl⟩:=r
  cases (show T = "int" from ty)
  exact ⟨typeIs_int s i t,λ _ e=>nomatch e⟩
 | ref p =>
  cases r
  rcases ty with ⟨rfl,xs,hq⟩ | ⟨rfl,xs,hq⟩ | ⟨rfl,hk⟩ | ⟨rfl,S,n,hk⟩
  ·obtain ⟨its,_,pl,_⟩:=I.list hq
   refine ⟨pl.isList.typeIs,λ a e=>?_⟩
   cases e
   obtain ⟨o,n,e,c,hd,_⟩:=pl
   exact ⟨o,e,hd⟩
  ·obtain ⟨its,_,⟨o,h1,h2,h3,_⟩,_⟩:=I.agW hq
   refine ⟨⟨o,h1,h2⟩,λ a e=>?_⟩
   cases e
   exact ⟨o,h1,h3⟩
  ·have z:∃ o,s.heap.get? p=some o/\o.ExactDict:=by
    rcases hk with ⟨kvs,hk⟩ | ⟨kvs,hk⟩
    ·obtain ⟨_,_,_,_,o,_,_,e,ex,_⟩:=I.hok p _ hk
     exact ⟨o,e,ex⟩
    ·obtain ⟨_,_,_,_,o,_,_,e,ex,_⟩:=I.hok p _ hk
     exact ⟨o,e,ex⟩
   obtain ⟨o,e,ex⟩:=z
   refine ⟨⟨o,e,ex.1⟩,λ a e2=>?_⟩
   cases e2
   exact ⟨o,e,ex.2.1⟩
  ·obtain ⟨o,_,_,_,e,ex,_⟩:=I.hok p _ hk
   refine ⟨⟨o,e,ex.1⟩,λ a e2=>?_⟩
   cases e2
   exact ⟨o,e,ex.2.1⟩
 | _=>exact False.elim ty
def ahr (K:PySem.W.Frag)(T:String)(r:V->List V->Hp->VK->Prop)(to:TE):TE:=λ σ H Q=>to σ H λ x H1=>tyV K T x H1/\r x [] H1 Q
def tBM (K:PySem.W.Frag)(T:String)(r:V->List V->Hp->VK->Prop)(to:TE)(t:TA):TE:=λ σ H Q=>to σ H λ x H1=>tyV K T x H1/\t σ H1 λ xs H2=>r x xs H2 Q
variable {o e:Expr}{es:List Expr}{to:TE}{t:TA}{name:Str}{apos cpos:Pos}{T id:String}{r:V->List V->Hp->VK->Prop}
theorem aew (pa:PlainAttrs T)(slot:Slot T name id)(hty:typeOf (.builtin id)=pure (.type "method_descriptor"))(hm:MtR X id r)(ho:PE X o to)
  (hbase:attributeBase o name X.env (eval o X.env)=eval o X.env:=by rfl)(hline:(apos.endLine == cpos.line)=true:=by rfl):PE X (.Call (.Attribute o name apos) [] [] cpos) (ahr X.K T r to):=by
 intro pins s σ H Q I h
 refine wpAny_Call_method0_late hbase hline (thn (ho pins s σ H _ I h) λ v s1 hq26=>?_)
 obtain ⟨x,H1,I1,r1,ty,q1⟩:=hq26
 obtain ⟨h1,h2⟩:=zS I1 r1 ty
 exact ⟨T,id,pa,slot,hty,h1,h2,Calls.callWith_builtin rfl (PySem.evalArgs_none (hm pins s1 σ H1 x [] v [] Q I1 r1 .nil q1))⟩
theorem xa (pa:PlainAttrs T)(slot:Slot T name id)(hty:typeOf (.builtin id)=pure (.type "method_descriptor"))(hm:MtR X id r)(ho:PE X o to)(ha:PA X (e :: es) t)
  (hbase:attributeBase o name X.env (eval o X.env)=eval o X.env:=by rfl)
  (hfew:((backTo cpos (starEach (e :: es) X.env)).all (λ x=>!x.1) && (backToKw cpos (keywordEach [] X.env)).all (λ x=>x.1.isSome)
   && decide ((e :: es).length+([]:List Keyword).length+(if ([]:List Keyword).isEmpty then 0 else 1) < 30))=true:=by rfl)
  (hline:(apos.endLine == cpos.line)=true:=by rfl)(hs:starEach (e :: es) X.env=(false,eval e X.env) :: starEach es X.env:=by rfl)(hplain:(backTo cpos (starEach es X.env)).any (·.1)=false:=by rfl) :
  PE X (.Call (.Attribute o name apos) (e :: es) [] cpos) (tBM X.K T r to t):=by
 intro pins s σ H Q I h
 refine wpAny_Call_method_late hbase hfew hline rfl (thn (ho pins s σ H _ I h) λ v s1 hq27=>?_)
 obtain ⟨x,H1,I1,r1,ty,q1⟩:=hq27
 obtain ⟨h1,h2⟩:=zS I1 r1 ty
 refine ⟨T,id,pa,slot,hty,h1,h2,?_⟩
 have hA:=ha cpos pins s1 σ H1 _ I1 q1
 rw [hs] at hA ⊢
 refine Calls.callWith_builtin (by show (false || (backTo cpos (starEach es X.env)).any (·.1))=false; rw [hplain] <;> rfl) (Calls.evalArgs_plain ?_)
 exact thn hA λ us s2 ⟨vs,H2,I2,r2,q2⟩=>hm pins s2 σ H2 x vs v us Q I2 r1 r2 q2
end
end L2
namespace L2
open PySem PySem.Spec PyProof.Rows
def MtM (X:Cx)(id:String)(r:V->List V->Hp->VK->Prop):Prop :=
 ∀ (pins:List (Addr×Obj)) (s:Shared) (σ:St) (H:Hp) (x:V) (xs:List V) (v:Value) (us:List Value) (Q:VK),Inv X pins σ H s->RelV x v->Vals xs us->r x xs H Q ->
  wpAny (model X.prog X.w) X.A (call (.builtin id) (v :: us)) (EP X pins σ Q) X.xe s
theorem Vals.one:∀ {x:V} {us:List Value},Vals [x] us->∃ u,us=[u]/\RelV x u
 | _,_,.cons r .nil=>⟨_,rfl,r⟩
theorem Vals.zero:∀ {us:List Value},Vals [] us->us=[]
 | _,.nil=>rfl
theorem Vals.reverse {xs:List V}{us:List Value}(h:Vals xs us):Vals xs.reverse us.reverse:=by
 induction h with
 | nil=>exact .nil
 | cons r t ih=>rw [List.reverse_cons,List.reverse_cons]; exact Vals.append ih (.cons r .nil)
section
variable {X:Cx}{pins:List (Addr×Obj)}{σ:St}{H:Hp}{s:Shared}{l b:Addr}{xs ys zs:List V}
theorem Inv.afk {its its':List Value}{n:Nat}{f:Array Value->Array Value}{t':Nat}(I:Inv X pins σ H s)(hH:H l=some (.lst xs))
  (e:s.heap.get? l=some { cls:=.type "list",data:=.seq its.toArray n })(hf:f its.toArray=its'.toArray)(hv:Vals ys its')(hz:ys.length<=sizeLine) :
  Inv X pins σ (upd H l (.lst ys)) { s with heap:=s.heap.update l (Obj.mapSeq f),toks:=t' }:=by
 have q:=PySem.IsL.update e f
 rw [hf] at q
 refine I.write (x:=l) (e:=l) (by rw [hH]; exact trivial) (.inl rfl) (λ b' u hb hu=>(Heap.get?_update_other s.heap (Obj.mapSeq f) (Ne.symm hb)).trans hu) ⟨_,q⟩ ?_
 exact ⟨hz,its',_,hv,q⟩
theorem Inv.ahH {its:List Value}{t':Nat}(I:Inv X pins σ H s)(hv:Vals ys its)(hz:ys.length<=sizeLine) :
  Inv X pins σ (upd H s.heap.objs.size (.lst ys)) { s with heap:=s.heap.push { cls:=.type "list",data:=.seq its.toArray },toks:=t' } :=
 I.laid (λ _ _ q=>Heap.get?_push_of_some _ q) (Nat.le_refl _) ⟨hz,its,0,hv,Heap.get?_push_size _ rfl⟩
theorem Inv.fresh (I:Inv X pins σ H s):H s.heap.objs.size=none:=I.hok.fresh (Nat.le_refl _)
theorem Inv.adD (I:Inv X pins σ H s)(hH:H l=some (.lst xs)):xs.length<=sizeLine/\∃ (its:List Value) (n:Nat),Vals xs its/\xs.length=its.length/\s.heap.get? l=some { cls:=.type "list",data:=.seq its.toArray n }:=by
 obtain ⟨z,its,n,r,e⟩:=I.hok l _ hH
 exact ⟨z,its,n,r,r.length,e⟩
end
section
variable {X:Cx}
def aa3:V->List V->Hp->VK->Prop:=λ x vs H Q=>∃ l xs y,x=.ref l/\vs=[y]/\H l=some (.lst xs)/\xs.length < sizeLine/\Q .non (upd H l (.lst (xs++[y])))
theorem vS:MtM X "list.append" aa3:=by
 intro pins s σ H x vs v us Q I rx rv h
 obtain ⟨l,xs,y,rfl,rfl,hH,hz,q⟩:=h
 cases rx
 obtain ⟨u,rfl,ru⟩:=rv.one
 obtain ⟨z,its,n,r,hl,e⟩:=I.adD hH
 refine call_meets F.slot_list_append ⟨_,e,rfl⟩ F.entry_list_append (F.args_list_append_2 _ _) (PySem.list_append l its.toArray n u (by rw [List.size_toArray]; omega)) ⟨e,?_⟩
 refine ⟨.non,_,I.afk (its':=its++[u]) hH e (by simp) (r.append (.cons ru .nil)) ?_,rfl,q⟩
 rw [List.length_append,List.length_singleton]
 omega
def yU:V->List V->Hp->VK->Prop:=λ x vs H Q=>∃ l xs,x=.ref l/\vs=[]/\H l=some (.lst xs)/\Q .non (upd H l (.lst xs.reverse))
theorem ue:MtM X "list.reverse" yU:=by
 intro pins s σ H x vs v us Q I rx rv h
 obtain ⟨l,xs,rfl,rfl,hH,q⟩:=h
 cases rx
 have hus:=rv.zero
 subst hus
 obtain ⟨z,its,n,r,hl,e⟩:=I.adD hH
 refine call_meets F.slot_list_reverse ⟨_,e,rfl⟩ F.entry_list_reverse (F.args_list_reverse_1 _) (AutoSeq1.list_reverse_list_0 l its.toArray n (by rw [List.size_toArray]; omega)) ⟨e,?_⟩
 refine ⟨.non,_,I.afk (its':=its.reverse) hH e (by simp) r.reverse ?_,rfl,q⟩
 rw [List.length_reverse]
 omega
end
section
variable {prog:Program}{w:World}{A:Around}{E:Value->Shared->Prop}{s:Shared}
end
section
variable {X:Cx}
end
end L2
namespace Att
open PySem PySem.W PySem.Calls PyProof.Rows
theorem jU {P:Params}{h:Heap}:∀ (ns:List Int) (vs:List Value),WellAll P h vs (ns.map WData.int)->IntsAre vs ns:=by
 intro ns
 induction ns with
 | nil =>
  intro vs w
  rw [List.map_nil] at w
  cases w
  exact .nil
 | cons n ns ih =>
  intro vs w
  rw [List.map_cons] at w
  cases w with
  | cons a b =>
   cases a
   exact .cons _ _ (ih _ b)
theorem wa {l:OpenLaw}{n:Nat}(hn:l.most=some n){P:Params}{h:Heap}{args:List WData}{vals:List Value}
  (hpre:l.row.toRowW.claim.pre args=true)(hwl:WellAll P h vals args) :
  ∃ a vs ns,vals=[Value.ref a]/\args=[WData.list (ns.map WData.int)]/\h.get? a=some { cls:=.type "list",data:=.seq vs.toArray }/\IntsAre vs ns/\ns.length<=n:=by
 have hsh:WShape.hasAll [] args [.list .int]=true:=(pre_splitW hpre).1
 have hc:l.pre.holds [] { args:=args }=true:=(pre_splitW hpre).2
 obtain ⟨d,r,rfl,h1,h2⟩:=hasAllW_cons hsh
 obtain rfl:=hasAllW_nil h2
 obtain ⟨xs,rfl,h3⟩:=hasW_list h1
 obtain ⟨ns,rfl⟩:=items_int h3
 have hlen:ns.length<=n:=by
  unfold OpenLaw.pre at hc
  have h4:(WTm.not (.lt (.lit (.int (n:Int))) (.len (.arg 0)))).holds [] { args:=[.list (ns.map .int)] }=true:=by
   have h4:=(holds_andW hc).1
   rw [hn] at h4
   exact h4
  have h5:=condW_of h4 (w_not (w_lt w_lit (w_len_list (w_arg rfl))))
  rw [List.length_map] at h5
  refine Nat.le_of_not_lt λ q=>?_
  have q':(n:Int) < ((ns.length:Nat):Int):=by omega
  first
   | (rw [decide_eq_true q'] at h5; exact absurd h5 (by decide))
   | (simp at h5; omega)
 cases hwl with
 | cons w1 w2 =>
  cases w2
  cases w1 with
  | list ho hall=>exact ⟨_,_,ns,rfl,rfl,ho,jU ns _ hall,hlen⟩
theorem wk (l:OpenLaw)(args:List WData):l.row.toRowW.claim.post args (.bool true) args=true :=
 postW_of (r:=l.row.toRowW) (X:=(true == true))
  (show WShape.has [] (.bool true) .bool=true by first | rfl | decide | simp [WShape.has,WShape.arms,WShape.armsAll])
  (show (WTm.eq .res (.lit (.bool true))).value [] { args:=args,res:=some (.bool true),after:=args }=some (.bool (true == true)) from w_eq_bool (w_res rfl) w_lit) rfl
theorem ql {l:OpenLaw}{n:Nat}{q:Program}{loose:List Str}{XP:(Str->Option Value)->Heap->Prop}{YP:World->Heap->Prop}{d:DefRec}
  (hn:l.most=some n)(hdf:d.params.defaults=[])
  (call:∀ (w:World) (s₀ s₁:Shared) (mg mb:Str->Option Value) (fa:Addr) (o:Obj) (pm cd doc:Value) (a:Addr) (vs:List Value) (ns:List Int),
   Ground q loose [] XP w s₀ mg mb s₁.heap->YP w s₁.heap ->
   s₁.heap.get? fa=some o->o.data=.func (docDef d.name d.params d.body d.scope pm cd doc)->s₁.heap.CodeRec cd d.name->mg d.name=some (.ref fa) ->
   s₁.heap.get? a=some { cls:=.type "list",data:=.seq vs.toArray }->IntsAre vs ns->ns.length<=n->s₁.gens = #[] ->
   codeAny (model l.prog w) callerA (.call (.ref fa) ⟨[.ref a],[]⟩) (λ r s'=>r=.ok (.ret (.bool true))/\OldK s₁.heap s'.heap/\s'.os=s₁.os/\AllBare s'.gens) s₁) :
  WalkO q loose XP YP l.row.toRowW d [] (λ f vs=>PySem.call f vs):=by
 intro w s₀ s₁ mg mb G Y fa o pm cd doc dV kV ho hd hcd hD hmg hg args vals as hpre hlay hrd hwl hlo
 obtain rfl:dV=.none:=Dflts.none hD hdf
 obtain rfl:kV=.none:=Dflts.noKw hD
 obtain ⟨a,vs,ns,rfl,rfl,hobj,hints,hlen⟩:=wa hn hpre hwl
 refine enter_call (codeAny_mono (call w s₀ s₁ mg mb fa o pm cd doc a vs ns G Y ho (fd_plain hd) hcd hmg hobj hints hlen hg) λ r s' hq=>?_)
 obtain ⟨rfl,h2,h3,h4⟩:=hq
 exact ⟨.inl ⟨.bool true,.bool true,[],rfl,λ _=>rfl,.bool true,wk l _,λ _=>⟨List.Pairwise.nil,λ _ hm=>(nomatch hm)⟩⟩,h2,h3,h4⟩
section
variable {prog:Program}{w:World}{A:Around}{E:Value->Shared->Prop}{s:Shared}{K:Frag}
end
end Att
namespace L2
open PySem PySem.Spec PyProof.Rows
theorem fG:∀ {vs:List Value} {ns:List Int},IntsAre vs ns->Vals (ns.map V.int) vs
 | _,_,.nil=>.nil
 | _,_,.cons n t h=>.cons ⟨t,rfl⟩ (fG h)
end L2
namespace L2
open PySem PySem.Spec PyProof.Rows
end L2
namespace L2
open PySem PySem.Spec PyProof.Rows
def inClass (s:Stmt)(j:Nat):Stmt:=match s with
 | .ClassDef _ _ _ body _ _ _ _ _ _ _=>body.getD j (.Pass ⟨0,0,0,0⟩)
 | _=>.Pass ⟨0,0,0,0⟩
def aN (s:Stmt):Arguments:=match s with
 | .FunctionDef _ a _ _ _ _ _ _ _ _=>a
 | _=>{ posonlyargs:=[],args:=[],vararg:=none,kwonlyargs:=[],kw_defaults:=[],kwarg:=none,defaults:=[] }
def aE (s:Stmt):List Stmt:=match s with
 | .FunctionDef _ _ b _ _ _ _ _ _ _=>b
 | _=>[]
def ai (s:Stmt):Scope:=match s with
 | .FunctionDef _ _ _ _ _ _ sc _ _ _=>sc
 | _=>{ kind:=.function,names:=[],isGenerator:=false,isCoroutine:=false }
abbrev CX0:CXT:=λ _ _ _ _ _ _=>False
abbrev E0:XK:=λ _ _ _=>False
theorem vO {X:Cx}:Passes CX0 X E0:=λ _ _ _ _ _ _ _ h=>h.elim
structure Fun (K:PySem.W.Frag)(x qual:Str)(st:Stmt)(f:Addr)(fd:FuncData):Prop where
 ex:∃ (oc:Value) (od:Option Addr) (kV doc pm:Value) (an:Option Addr) (cdv ct:Value) (osl:Array (Option Value)),
  fd=PySem.W.fnOf x qual (aN st) (aE st) (ai st) .none kV doc pm an cdv ct/\K.lookup f=some ⟨oc,od,.func fd,osl⟩/\PySem.W.codeIn K cdv qual=true
 kp:PySem.W.keepIn K (.ref f)=true
section
variable {P:Program}{w:World}{K:PySem.W.Frag}{mg:Str->Option Value}{base:Heap}
theorem Fun.ok {x qual:Str}{st:Stmt}{f:Addr}{fd:FuncData}{N ps:List Str}{k:Nat}{sp:Sp}(F:Fun K x qual st f fd)(S:aG N ps (ai st))(len:∀ vs H Q E,sp vs H Q E->vs.length=ps.length)
  (hbody:∀ (cdv:Value) (A:Around) (outer:List Env) (s:Shared) (H:Hp) (vs:List V) (Q:VK) (E:XK),cG k (A.deeper (envOfC qual (ai st) s.heap.objs.size f cdv))->sp vs H Q E ->
   ∃ t,PSs (uz CX0 P w K mg base N qual (ai st) f cdv A outer s H E).nox (aE st) t/\t { nx:=λ _ H'=>Q .non H',rt:=Q } (start N vs) H):bV P w K mg base CX0 (k+1) f fd ps sp:=by
 obtain ⟨oc,od,kV,doc,pm,an,cdv,ct,osl,rfl,lk,hcd⟩:=F.ex
 refine yR lk hcd S len λ A outer s H vs Q E hr hsp=>?_
 obtain ⟨t,h,q⟩:=hbody cdv A outer s H vs Q E hr hsp
 exact ⟨t,h.nox,q⟩
theorem Fun.binds {x qual:Str}{st:Stmt}{f:Addr}{fd:FuncData}{ps:List Str}(F:Fun K x qual st f fd)
  (h:∀ (kV doc pm:Value) (an:Option Addr) (cdv ct:Value) (us:List Value),us.length=ps.length->bindArgs (PySem.W.fnOf x qual (aN st) (aE st) (ai st) .none kV doc pm an cdv ct) ⟨us,[]⟩=pure (ps.zip us)):Binds K fd ps []:=by
 obtain ⟨oc,od,kV,doc,pm,an,cdv,ct,osl,rfl,lk,hcd⟩:=F.ex
 exact .all (h kV doc pm an cdv ct)
theorem yo {x qual:Str}{st:Stmt}{f:Addr}{oc:Value}{od an:Option Addr}{osl:Array (Option Value)}{kV doc pm cdv ct:Value}(l:K.lookup f=some ⟨oc,od,.func (PySem.W.fnOf x qual (aN st) (aE st) (ai st) .none kV doc pm an cdv ct),osl⟩)
  (c:PySem.W.codeIn K cdv qual=true)(k:PySem.W.keepIn K (.ref f)=true):Fun K x qual st f (PySem.W.fnOf x qual (aN st) (aE st) (ai st) .none kV doc pm an cdv ct):=⟨⟨oc,od,kV,doc,pm,an,cdv,ct,osl,rfl,l,c⟩,k⟩
end
theorem bS {A:Around}{k:Nat}(hr:cG k A):A.units+1 < cLine:=Nat.lt_of_le_of_lt (Nat.add_le_add_left (by decide:1<=64) _) hr.units
section
variable {X:Cx}
end
theorem kI {A B:Prop}(h:B):if false=true then A else B:=by
 rw [if_neg Bool.false_ne_true]
 exact h
theorem jK {A B:Prop}(h:A):if true=true then A else B:=by
 rw [if_pos rfl]
 exact h
def ahI (H H':Hp):Prop:=∀ b o,H b=some o->H' b=some o
end L2
namespace L2
open PySem PySem.Spec PyProof.Rows
section
variable {κ:Type}[DecidableEq κ]
def nK (kvs:List (κ×V))(k:κ):Option V:=(kvs.find? λ kv=>decide (kv.1=k)).map (·.2)
def putK (kvs:List (κ×V))(k:κ)(v:V):List (κ×V) :=
 if (kvs.any λ kv=>decide (kv.1=k))=true then kvs.map (λ kv=>if kv.1=k then (kv.1,v) else kv) else kvs++[(k,v)]
def aho (kvs:List (κ×V))(k:κ):List (κ×V):=kvs.filter λ kv=>decide (kv.1≠k)
theorem jk {p:κ×V}{r:List (κ×V)}{k:κ}(e:p.1=k):nK (p :: r) k=some p.2:=by simp [nK,List.find?_cons,e]
theorem jc {p:κ×V}{r:List (κ×V)}{k:κ}(e:¬ p.1=k):nK (p :: r) k=nK r k:=by simp [nK,List.find?_cons,e]
theorem jf (k:κ):∀ kvs:List (κ×V),(kvs.any λ kv=>decide (kv.1=k))=(nK kvs k).isSome
 | []=>rfl
 | p :: r=>by
  rw [List.any_cons]
  by_cases e:p.1=k
  ·simp only [jk e,decide_eq_true e,Bool.true_or,Option.isSome_some]
  ·rw [jc e,decide_eq_false e,Bool.false_or]; exact jf k r
theorem eV (kvs:List (κ×V))(k:κ)(v:V):(putK kvs k v).length<=kvs.length+1:=by
 unfold putK
 split
 ·rw [List.length_map]; omega
 ·rw [List.length_append,List.length_cons,List.length_nil]; omega
theorem yT {kvs:List (κ×V)}{k:κ}(v:V)(h:nK kvs k=none):putK kvs k v=kvs++[(k,v)]:=by
 unfold putK
 rw [jf,h]
 exact if_neg (by decide)
theorem nk.fT {o:Option V}{u:Option Value}(r:nk o u):o.isSome=u.isSome:=by
 cases o with
 | none=>cases u with
  | none=>rfl
  | some _=>exact (show False from r).elim
 | some _=>cases u with
  | none=>exact (show False from r).elim
  | some _=>rfl
theorem nk.getD {o:Option V}{u:Option Value}{d:V}{d':Value}(r:nk o u)(rd:RelV d d'):RelV (o.getD d) (u.getD d'):=by
 cases o with
 | none=>cases u with
  | none=>exact rd
  | some _=>exact (show False from r).elim
 | some _=>cases u with
  | none=>exact (show False from r).elim
  | some _=>exact r
theorem KV.val {kvs:List (κ×V)}{vs:List (κ×Value)}(r:KV kvs vs)(k:κ):nk (nK kvs k) (valueAt vs k):=by
 unfold KV at r
 induction r with
 | nil=>exact True.intro
 | @cons p q ps qs h t ih =>
  obtain ⟨h1,h2⟩:=h
  by_cases e:p.1=k
  ·have e':q.1=k:=h1.symm.trans e
   have b:valueAt (q :: qs) k=some q.2:=by simp [valueAt,List.find?_cons,e']
   rw [jk e,b]; exact h2
  ·have e':¬ q.1=k:=λ z=>e (h1.trans z)
   have b:valueAt (q :: qs) k=valueAt qs k:=by simp [valueAt,List.find?_cons,e']
   rw [jc e,b]; exact ih
theorem KV.any {kvs:List (κ×V)}{vs:List (κ×Value)}(r:KV kvs vs)(k:κ):(kvs.any λ kv=>decide (kv.1=k))=vs.any λ kv=>decide (kv.1=k):=by
 unfold KV at r
 induction r with
 | nil=>rfl
 | cons h t ih=>rw [List.any_cons,List.any_cons,ih,h.1]
theorem KV.agp {kvs:List (κ×V)}{vs:List (κ×Value)}(r:KV kvs vs)(k:κ){y:V}{u:Value}(ry:RelV y u) :
  KV (kvs.map λ kv=>if kv.1=k then (kv.1,y) else kv) (vs.map λ kv=>if kv.1=k then (kv.1,u) else kv):=by
 unfold KV at r ⊢
 induction r with
 | nil=>exact .nil
 | @cons p q ps qs h t ih =>
  rw [List.map_cons,List.map_cons]
  refine .cons ?_ ih
  obtain ⟨h1,h2⟩:=h
  by_cases e:p.1=k
  ·rw [if_pos e,if_pos (h1.symm.trans e)]; exact ⟨h1,ry⟩
  ·rw [if_neg e,if_neg (λ z=>e (h1.trans z))]; exact ⟨h1,h2⟩
theorem KV.put {kvs:List (κ×V)}{vs:List (κ×Value)}(r:KV kvs vs)(k:κ){y:V}{u:Value}(ry:RelV y u):KV (putK kvs k y) (stored vs k u):=by
 unfold putK stored
 rw [r.any k]
 by_cases e:(vs.any λ kv=>decide (kv.1=k))=true
 ·rw [if_pos e,if_pos e]; exact r.agp k ry
 ·rw [if_neg e,if_neg e]; exact Paired.snoc r ⟨rfl,ry⟩
theorem KV.length {kvs:List (κ×V)}{vs:List (κ×Value)}(r:KV kvs vs):kvs.length=vs.length:=Paired.length r
end
theorem oJ {P:Program}{w:World}{k:Key}{u:Value}(r:RelV (kV k) u):(aX P w).is k u=true:=by
 cases k with
 | inl i=>obtain ⟨t,e⟩:=(show ∃ t,u=Value.int i t from r); subst e; exact qZ P w i t
 | inr x=>obtain ⟨t,e⟩:=(show ∃ t,u=Value.str x t from r); subst e; exact rB P w x t
theorem ko {P:Program}{w:World}:∀ {ks:List Key} {us:List Value},Vals (ks.map kV) us->ItemsAre (aX P w) ks us
 | [],_,r=>by rw [List.map_nil] at r; cases r; exact .nil
 | k :: ks,_,r=>by
  rw [List.map_cons] at r
  cases r with
  | cons h t=>exact .cons (oJ h) (ko t)
abbrev KT (H:Hp):List (List Key×V)->List (List Key×Addr×Value)->Prop:=Paired λ p q=>p.1=q.1/\H q.2.1=some (.tup (p.1.map kV))/\RelV p.2 q.2.2
theorem KT.val {H:Hp}{kvs:List (List Key×V)}{xs:List (List Key×Addr×Value)}(r:KT H kvs xs)(k:List Key):nk (nK kvs k) ((atKey xs k).map (·.2)):=by
 induction r with
 | nil=>exact True.intro
 | @cons p q ps qs h t ih =>
  obtain ⟨h1,_,h2⟩:=h
  by_cases e:p.1=k
  ·have e':q.1=k:=h1.symm.trans e
   have b:atKey (q :: qs) k=some q.2:=by simp [atKey,List.find?_cons,e']
   rw [jk e,b]; exact h2
  ·have e':¬ q.1=k:=λ z=>e (h1.trans z)
   have b:atKey (q :: qs) k=atKey qs k:=by simp [atKey,List.find?_cons,e']
   rw [jc e,b]; exact ih
theorem KT.agp {H:Hp}{kvs:List (List Key×V)}{xs:List (List Key×Addr×Value)}(r:KT H kvs xs)(k:List Key){y:V}{u:Value}(ry:RelV y u) :
  KT H (kvs.map λ kv=>if kv.1=k then (kv.1,y) else kv) (xs.map (putAt k u)):=by
 induction r with
 | nil=>exact .nil
 | @cons p q ps qs h t ih =>
  rw [List.map_cons,List.map_cons]
  refine .cons ?_ ih
  obtain ⟨h1,h2,h3⟩:=h
  unfold putAt
  by_cases e:p.1=k
  ·rw [if_pos e,if_pos (h1.symm.trans e)]; exact ⟨h1,h2,ry⟩
  ·rw [if_neg e,if_neg (λ z=>e (h1.trans z))]; exact ⟨h1,h2,h3⟩
theorem KT.put {H:Hp}{kvs:List (List Key×V)}{xs:List (List Key×Addr×Value)}(r:KT H kvs xs)(k:List Key){b:Addr}{y:V}{u:Value}(hb:H b=some (.tup (k.map kV)))(ry:RelV y u) :
  KT H (putK kvs k y) (storedH xs k b u):=by
 have e:(kvs.any λ kv=>decide (kv.1=k))=(atKey xs k).isSome:=by
  rw [jf,(r.val k).fT,Option.isSome_map]
 unfold putK storedH
 rw [e]
 by_cases q:(atKey xs k).isSome=true
 ·rw [if_pos q,if_pos q]; exact r.agp k ry
 ·rw [if_neg q,if_neg q]; exact Paired.snoc r ⟨rfl,hb,ry⟩
theorem KT.keeps {H H':Hp}{kvs:List (List Key×V)}{xs:List (List Key×Addr×Value)}(r:KT H kvs xs)(ht:∀ b ys,H b=some (.tup ys)->H' b=some (.tup ys)):KT H' kvs xs :=
 Paired.je r λ _ _ z=>⟨z.1,ht _ _ z.2.1,z.2.2⟩
section
variable {P:Program}{w:World}{H:Hp}{h:Heap}{a:Addr}
theorem aeG {u:HO}(ok:HOk P w H h)(e:Rd H a u):bX P w H h a u:=e.ok ok
theorem vW {kvs:List (Key×V)}(ok:HOk P w H h)(e:Rd H a (.dK kvs)):kvs.length<=sizeLine/\(a == sysModules)=false/\∃ vs,KV kvs vs/\h.DictOf (aX P w) a vs :=
 show bX P w H h a (.dK kvs) from aeG ok e
theorem yK {kvs:List (Key×V)}(ok:HOk P w H h)(e:H a=some (.dK kvs)):kvs.length<=sizeLine/\(a == sysModules)=false/\∃ vs,KV kvs vs/\h.DictOf (aX P w) a vs:=vW ok (.inl e)
theorem z9 {ks:List Key}(ok:HOk P w H h)(e:H a=some (.tup (ks.map kV))):(tupleKind (aX P w)).is h ks a:=by
 obtain ⟨_,its,r,o,h1,h2,_,n,h3⟩:=(show bX P w H h a (.tup (ks.map kV)) from ok a _ e)
 exact ⟨o,its.toArray,n,h1,h2,h3,by simpa using ko r⟩
theorem wA {kvs:List (List Key×V)}(ok:HOk P w H h)(e:Rd H a (.dT kvs)):kvs.length<=sizeLine/\(a == sysModules)=false /\
  ∃ xs,KT H kvs xs/\h.DictOfH (tupleKind (aX P w)) a xs:=by
 obtain ⟨z,y,xs,r,o,es,ep,h1,h2,h3,h4,h5⟩:=(show bX P w H h a (.dT kvs) from aeG ok e)
 refine ⟨z,y,xs,r,o,es,ep,h1,h2,h3,h4,λ x hx=>?_,h5⟩
 have all:∀ {l:List (List Key×V)} {m:List (List Key×Addr×Value)},KT H l m->∀ x∈m,(tupleKind (aX P w)).is h x.1 x.2.1:=by
  intro l m q
  induction q with
  | nil=>intro x hx; exact nomatch hx
  | @cons p q ps qs hq t ih =>
   intro x hx
   rcases List.mem_cons.mp hx with e | hx
   ·subst e
    exact z9 ok (by rw [<- hq.1]; exact hq.2.1)
   ·exact ih x hx
 exact all r x hx
theorem afY {kvs:List (List Key×V)}(ok:HOk P w H h)(e:H a=some (.dT kvs)):kvs.length<=sizeLine/\(a == sysModules)=false /\
  ∃ xs,KT H kvs xs/\h.DictOfH (tupleKind (aX P w)) a xs:=wA ok (.inl e)
end
def ahK (H:Hp)(a:Addr)(y:V)(r:Option V):Prop :=
 (∃ kvs k,Rd H a (.dK kvs)/\y=kV k/\r=nK kvs k)\/∃ kvs k b,Rd H a (.dT kvs)/\y=.ref b/\H b=some (.tup (k.map kV))/\r=nK kvs k
def afv (H:Hp)(a:Addr)(y v:V)(H':Hp):Prop :=
 (∃ kvs k,H a=some (.dK kvs)/\y=kV k/\kvs.length < sizeLine/\H'=upd H a (.dK (putK kvs k v))) \/
 ∃ kvs k b,H a=some (.dT kvs)/\y=.ref b/\H b=some (.tup (k.map kV))/\kvs.length < sizeLine/\H'=upd H a (.dT (putK kvs k v))
section
variable {X:Cx}{pins:List (Addr×Obj)}{σ:St}{H:Hp}{s:Shared}{a:Addr}{y v:V}{u r:Value}{o:Option V}{A:Around}{E:Value->Shared->Prop}
theorem Inv.big (I:Inv X pins σ H s):sysModules < s.heap.objs.size:=by
 have h:mainGlobals < s.heap.objs.size:=(I.mod.glob.keeps I.bk).lt
 exact Nat.lt_trans (by decide) h
theorem jT {h':Heap}{t':Nat}{ob:HO}(I:Inv X pins σ H s)(mu:Mut (H a))(hs:Heap.SameBut a s.heap h')(he:∃ q,h'.get? a=some q)(new:bX X.prog X.w (upd H a ob) h' a ob) :
  Inv X pins σ (upd H a ob) { s with heap:=h',toks:=t' } :=
 I.write (x:=a) (e:=a) mu (.inl rfl) (λ b q hb z=>(hs.2 b hb).trans z) he new
theorem tj {P:Program}{w:World}{H':Hp}{h':Heap}{kvs:List (Key×V)}{vs:List (Key×Value)}(z:kvs.length<=sizeLine)(hd:(a == sysModules)=false)(rel:KV kvs vs)(dd:h'.DictOf (aX P w) a vs) :
  bX P w H' h' a (.dK kvs):=⟨z,hd,vs,rel,dd⟩
theorem oS {H':Hp}{Q:Unit->Shared->Prop}(hu:A.units+1 < cLine)(I:Inv X pins σ H s)(g:afv H a y v H')(ry:RelV y u)(rv:RelV v r)(h:∀ s',Inv X pins σ H' s'->Q () s') :
  wpAny (model X.prog X.w) A (setItem (.ref a) u r) Q E s:=by
 rcases g with ⟨kvs,k,e,ey,l,eH⟩ | ⟨kvs,k,b,e,ey,eb,l,eH⟩
 ·subst ey eH
  obtain ⟨z,hd,vs,rel,dd⟩:=yK I.hok e
  have hz:vs.length<=sizeLine:=by rw [<- rel.length]; exact z
  have hl:(putK kvs k v).length<=sizeLine:=by have:=eV kvs k v; omega
  refine wpAny_setItem_pairs (hsz:=hz) (oJ ry) dd λ h' dd' hs=>h _ ?_
  have he:∃ q,h'.get? a=some q:=let ⟨q,_,_,hq,_⟩:=dd'; ⟨q,hq⟩
  exact jT I (by rw [e]; exact True.intro) hs he (tj hl hd (rel.put k rv) dd')
 ·subst ey eH
  cases (show u=Value.ref b from ry)
  obtain ⟨z,hd,xs,rel,dd⟩:=afY I.hok e
  have hz:xs.length<=sizeLine:=by rw [<- Paired.length rel]; exact z
  have hl:(putK kvs k v).length<=sizeLine:=by have:=eV kvs k v; omega
  refine wpAny_setItem_heap (hsz:=hz) (tupleKind_room_in1 hu) (z9 I.hok eb) dd λ h' dd' hs=>h _ ?_
  obtain ⟨q,es,ep,hq,h2,h3,h4,_,h5⟩:=dd'
  refine jT I (by rw [e]; exact True.intro) hs ⟨q,hq⟩ ⟨hl,hd,_,(rel.put k eb rv).keeps λ c ys ec=>?_,q,es,ep,hq,h2,h3,h4,h5⟩
  rw [ao (uE ec e (λ z=>nomatch z))]
  exact ec
end
section
variable {X:Cx}{pins:List (Addr×Obj)}{σ:St}{H:Hp}{s:Shared}{a:Addr}{kvs:List (Key×V)}{k:Key}{u:Value}{A:Around}{E:Value->Shared->Prop}
end
def ae8 (i:Expr):Prop:=∀ ov iv,subscripted i false ov iv=operate [ov,iv] (getItem ov iv)
theorem acp {prog:Program}{w:World}{A:Around}{E:Value->Shared->Prop}{s:Shared}{env:Env}{value slice:Expr}{pos:Pos}{T id:String}{Q:Value->Shared->Prop}
  (hl:typeLookup (.type T) "__getitem__" = pure (some (.builtin id)))(hs:ae8 slice)
  (h:wpAny (model prog w) A (eval value env) (λ o s₁=>wpAny (model prog w) A (eval slice env) (λ i s₂=>s₂.TypeIs o T/\wpAny (model prog w) A (getItem o i) Q E s₂) E s₁) E s) :
  wpAny (model prog w) A (eval (.Subscript value slice pos) env) Q E s:=by
 refine Subscript_ (wpAny_mono h (λ o s₁ h₁=>wpAny_mono h₁ (λ i s₂ h₂=>?_) λ _ _ x=>x) λ _ _ x=>x)
 obtain ⟨hT,h₂⟩:=h₂
 unfold subscriptTail
 refine wpAny_bind ?_
 rw [getitemInPython_of_ne hT.not_modules]
 refine wpAny_bind (wpAny_specialOf hT hl ?_)
 have fin:wpAny (model prog w) A (subscripted slice false o i) (λ r s₃=>wpAny (model prog w) A (letTemporaryGo value o r >>= λ _=>pure r) Q E s₃) E s₂:=by
  rw [hs o i]
  exact wpAny_operating (wpAny_mono h₂ (λ r s₃ h₃=>wpAny_bind (wpAny_letTemporaryGo (wpAny_pure h₃))) λ _ _ x=>x)
 first
  | exact wpAny_pure (wpAny_bind fin)
  | exact wpAny_bind (wpAny_pure (wpAny_bind fin))
  | exact wpAny_bind fin
def agk (td ty tv:TE):TS:=λ D σ H=>tv σ H λ v H1=>td σ H1 λ x H2=>ty σ H2 λ y H3=>∃ a H4,x=.ref a/\afv H3 a y v H4/\D.nx σ H4
section
variable {X:Cx}{o i e value:Expr}{pos pos' tpos:Pos}{td ty tv:TE}
theorem acF (hu:X.A.units+1 < cLine)(ho:PE X o td)(hi:PE X i ty)(hv:PE X value tv)(hs:swapsWith value (some (.Subscript o i pos')) pos.line X.env=pure false) :
  PS X (.Assign [.Subscript o i pos'] value pos) (agk td ty tv):=by
 intro pins s σ H D I h
 refine wpAny_Assign_Subscript (thn (hv pins s σ H _ I h) λ r s1 ⟨v,H1,I1,rv,q1⟩=>thn (ho pins s1 σ H1 _ I1 q1) λ u s2 ⟨x,H2,I2,rx,q2⟩=>thn (hi pins s2 σ H2 _ I2 q2) λ iv s3 ⟨y,H3,I3,ry,a,H4,ex,g,q3⟩=>?_) hs
 subst ex
 obtain rfl:u=Value.ref a:=rx
 exact oS hu I3 g ry rv λ s4 I4=>⟨σ,H4,I4,q3⟩
end
theorem mE {P:Program}{w:World}{H:Hp}(h:Heap)(hb:sysModules < h.objs.size):bX P w H (h.push { cls:=.type "dict",data:=.dict #[] }) h.objs.size (.dK []) :=
 ⟨Nat.zero_le _,beq_eq_false_iff_ne.mpr (Ne.symm (Nat.ne_of_lt hb)),[],.nil,Heap.DictOf.new h⟩
def aeS:TE:=λ _ H Q=>∀ p,H p=none->Q (.ref p) (upd H p (.dK []))
section
variable {X:Cx}{pos:Pos}
theorem zK:PE X (.Dict [] [] pos) aeS:=λ pins s σ H Q I h =>
 wpAny_Dict_empty ⟨.ref s.heap.objs.size,_,I.laid (a:=s.heap.objs.size) (o:=.dK []) (t':=s.toks) (λ _ _ q=>Heap.get?_push_of_some _ q) (Nat.le_refl _) (mE s.heap I.big),rfl,h _ (I.hok.fresh (Nat.le_refl _))⟩
end
def sC:List (TE×TE)->St->Hp->(List (V×V)->Hp->Prop)->Prop
 | [],_,H,Q=>Q [] H
 | (tk,tv) :: r,σ,H,Q=>tk σ H λ x H1=>tv σ H1 λ y H2=>sC r σ H2 λ ps H3=>Q ((x,y) :: ps) H3
abbrev VV:List (V×V)->List (Value×Value)->Prop:=Paired λ p q=>RelV p.1 q.1/\RelV p.2 q.2
def PPs (X:Cx)(pos:Pos)(keys:List (Option Expr))(values:List Expr)(trs:List (TE×TE)):Prop :=
 ∀ (pins:List (Addr×Obj)) (s:Shared) (σ:St) (H:Hp) (Q:List (V×V)->Hp->Prop),Inv X pins σ H s->sC trs σ H Q ->
  wpAny (model X.prog X.w) X.A (evalPairs (pairTrees keys values X.env pos)) (λ vs s'=>∃ ps H',Inv X pins σ H' s'/\VV ps vs/\Q ps H') X.xe s
theorem nE {X:Cx}{pos:Pos}:PPs X pos [] [] []:=λ pins s σ H Q I h=>pairTrees_nil_walk ⟨[],H,I,.nil,h⟩
theorem dh {X:Cx}{pos:Pos}{k v:Expr}{ks:List (Option Expr)}{vs:List Expr}{tk tv:TE}{trs:List (TE×TE)}(hk:PE X k tk)(hv:PE X v tv)(hr:PPs X pos ks vs trs) :
  PPs X pos (some k :: ks) (v :: vs) ((tk,tv) :: trs):=λ pins s σ H Q I h =>
 pairTrees_cons_walk (thn (hk pins s σ H _ I h) λ u s1 ⟨x,H1,I1,rx,q1⟩=>thn (hv pins s1 σ H1 _ I1 q1) λ w2 s2 ⟨y,H2,I2,ry,q2⟩ =>
  thn (hr pins s2 σ H2 _ I2 q2) λ ws s3 ⟨ps,H3,I3,rel,q3⟩=>⟨(x,y) :: ps,H3,I3,.cons ⟨rx,ry⟩ rel,q3⟩)
def fu (kvs more:List (Key×V)):List (Key×V):=more.foldl (λ acc kv=>putK acc kv.1 kv.2) kvs
theorem KV.merge:∀ {more:List (Key×V)} {rs:List (Key×Value)} {kvs:List (Key×V)} {vs:List (Key×Value)},KV more rs->KV kvs vs->KV (fu kvs more) (merged vs rs):=by
 intro more rs kvs vs r
 unfold KV at r
 induction r generalizing kvs vs with
 | nil=>intro q; exact q
 | @cons p q ps qs h t ih =>
  intro r0
  have e:KV (putK kvs p.1 p.2) (stored vs q.1 q.2):=by
   have:=r0.put p.1 h.2
   rw [<- h.1]; exact this
  exact ih e
theorem eZ:∀ (more kvs:List (Key×V)),(fu kvs more).length<=kvs.length+more.length
 | [],kvs=>by show kvs.length<=kvs.length+0; omega
 | p :: r,kvs=>by
  have h1:=eZ r (putK kvs p.1 p.2)
  have h2:=eV kvs p.1 p.2
  show (fu (putK kvs p.1 p.2) r).length<=_
  rw [List.length_cons]; omega
theorem k6 {P:Program}{w:World}:∀ {kvs:List (Key×V)} {ws:List (Value×Value)},VV (kvs.map λ kv=>(kV kv.1,kv.2)) ws->∃ rs,Carries (aX P w) ws rs/\KV kvs rs
 | [],_,r=>by rw [List.map_nil] at r; cases r; exact ⟨[],True.intro,.nil⟩
 | p :: kvs,_,r=>by
  rw [List.map_cons] at r
  cases r with
  | @cons a b as bs h t =>
   obtain ⟨rs,c,q⟩:=k6 (P:=P) (w:=w) t
   obtain ⟨b1,b2⟩:=b
   exact ⟨(p.1,b2) :: rs,⟨oJ h.1,rfl,c⟩,.cons ⟨rfl,h.2⟩ q⟩
def afH (trs:List (TE×TE)):TE:=λ σ H Q=>∀ p,H p=none->sC trs σ (upd H p (.dK [])) λ ps H2=>H2 p=some (.dK [])/\∃ kvs:List (Key×V),ps=kvs.map (λ kv=>(kV kv.1,kv.2))/\kvs.length<=15/\Q (.ref p) (upd H2 p (.dK (fu [] kvs)))
theorem abl {X:Cx}{pos:Pos}{keys:List (Option Expr)}{values:List Expr}{trs:List (TE×TE)}(h:PPs X pos keys values trs)(hall:keys.all (·.isSome)=true)(hl:keys.length=values.length)(h0:keys≠[])
  (h15:keys.length<=15):PE X (.Dict keys values pos) (afH trs):=by
 intro pins s σ H Q I q
 have hn:=I.hok.fresh (Nat.le_refl s.heap.objs.size)
 have I1:=I.laid (a:=s.heap.objs.size) (o:=.dK []) (h':=s.heap.push { cls:=.type "dict",data:=.dict #[] }) (t':=s.toks) (λ _ _ q=>Heap.get?_push_of_some _ q) (Nat.le_refl _) (mE s.heap I.big)
 refine wpAny_Dict_walk (knd:=aX X.prog X.w) hall hl h0 h15 (thn (h pins _ σ _ _ I1 (q _ hn)) λ ws s2 hq28=>?_)
 obtain ⟨ps,H2,I2,rel,e,kvs,ep,lk,q2⟩:=hq28
 subst ep
 obtain ⟨rs,c,rk⟩:=k6 (P:=X.prog) (w:=X.w) rel
 obtain ⟨z,hd,vs0,r0,dd⟩:=yK I2.hok e
 cases r0
 refine ⟨rs,c,dd,λ h' dd' hs=>⟨.ref s.heap.objs.size,_,?_,rfl,q2⟩⟩
 have hz:(fu [] kvs).length<=sizeLine:=by
  have h1:=eZ kvs []
  rw [List.length_nil] at h1
  rw [sizeLine_eq]; omega
 have he:∃ q,h'.get? s.heap.objs.size=some q:=let ⟨q,_,_,hq,_⟩:=dd'; ⟨q,hq⟩
 exact jT I2 (by rw [e]; exact True.intro) hs he (tj hz hd (rk.merge .nil) dd')
structure M1 (X:Cx)(o:Expr)(m:Str)(apos:Pos)(e:Expr)(cpos:Pos):Prop where
 base:attributeBase o m X.env (eval o X.env)=eval o X.env
 few:((backTo cpos (starEach [e] X.env)).all (λ x=>!x.1) && (backToKw cpos (keywordEach [] X.env)).all (λ x=>x.1.isSome)
  && decide (([e]:List Expr).length+([]:List Keyword).length+(if ([]:List Keyword).isEmpty then 0 else 1) < 30))=true
 line:(apos.endLine == cpos.line)=true
 trees:backTo cpos (starEach [e] X.env)=[(false,eval e X.env)]
structure M2 (X:Cx)(o:Expr)(m:Str)(apos:Pos)(e f:Expr)(cpos:Pos):Prop where
 base:attributeBase o m X.env (eval o X.env)=eval o X.env
 few:((backTo cpos (starEach [e,f] X.env)).all (λ x=>!x.1) && (backToKw cpos (keywordEach [] X.env)).all (λ x=>x.1.isSome)
  && decide (([e,f]:List Expr).length+([]:List Keyword).length+(if ([]:List Keyword).isEmpty then 0 else 1) < 30))=true
 line:(apos.endLine == cpos.line)=true
 trees:backTo cpos (starEach [e,f] X.env)=[(false,eval e X.env),(false,eval f X.env)]
def IsD (H:Hp)(a:Addr):Prop:=(∃ kvs,Rd H a (.dK kvs))\/∃ kvs,Rd H a (.dT kvs)
theorem adp {X:Cx}{pins:List (Addr×Obj)}{σ:St}{H:Hp}{s:Shared}{a:Addr}(I:Inv X pins σ H s)(d:IsD H a) :
  s.TypeIs (.ref a) "dict" /\ (∀ b,Value.ref a=.ref b->∃ ob,s.heap.get? b=some ob/\ob.dict=none)/\(a == sysModules)=false:=by
 rcases d with ⟨kvs,e⟩ | ⟨kvs,e⟩
 ·obtain ⟨_,hd,vs,_,dd⟩:=vW I.hok e
  refine ⟨dd.typeIs,λ b q=>?_,hd⟩
  cases q
  obtain ⟨ob,_,_,h1,h2,_⟩:=dd
  exact ⟨ob,h1,h2.2.1⟩
 ·obtain ⟨_,hd,xs,_,dd⟩:=wA I.hok e
  refine ⟨dd.typeIs,λ b q=>?_,hd⟩
  cases q
  obtain ⟨ob,_,_,h1,h2,_⟩:=dd
  exact ⟨ob,h1,h2.2.1⟩
section
variable {X:Cx}{pins:List (Addr×Obj)}{σ:St}{H:Hp}{s:Shared}{a:Addr}{y d:V}{u r:Value}{o:Option V}{A:Around}{E:Value->Shared->Prop}
end
section
variable {X:Cx}{o e f:Expr}{apos cpos:Pos}{td ty tx:TE}
end
section
variable {X:Cx}{pins:List (Addr×Obj)}{σ:St}{H:Hp}{s:Shared}{a:Addr}{kvs:List (Key×V)}{A:Around}{E:Value->Shared->Prop}
end
section
variable {X:Cx}{pins:List (Addr×Obj)}{σ:St}{H:Hp}{s:Shared}{a:Addr}{y:V}{u:Value}{A:Around}{E:Value->Shared->Prop}
end
end L2
set_option maxHeartbeats 0
namespace L2
open PySem PySem.Spec PyProof.Rows
def Fz:HO->Prop
 | .lst _=>True
 | .dK _=>True
 | _=>False
section
variable {X:Cx}{pins:List (Addr×Obj)}{σ:St}{H:Hp}{s:Shared}{p:Addr}{u:HO}
theorem adu {fs ex:List Addr}{h:Heap}{o:Obj}(e:H p=some u)(f:Fz u):Un fs ex H (upd H p (.frz o u)) h h where
 keep:=λ b ob q _ _ _=>q
 slot:=λ b ob q _ _ _=>⟨ob.slots,q⟩
 free:=λ b ob _ n _=>by rw [ao (Ne.symm (aL e n))]; exact n
 there:=λ b ob q _=>⟨ob,q⟩
 tups:=λ b xs q=>by
  have:b≠p:=λ z=>by subst z; rw [e] at q; cases q; exact f
  rw [ao this]; exact q
 frzs:=λ b ob v q=>by
  have:b≠p:=λ z=>by subst z; rw [e] at q; cases q; exact f
  rw [ao this]; exact q
 tbls:=λ b ps q=>by
  have:b≠p:=λ z=>by subst z; rw [e] at q; cases q; exact f
  exact ⟨#[],by rw [ao this,q]; simp⟩
theorem bX.agu {P:Program}{w:World}{H H':Hp}{h:Heap}{a:Addr}(f:Fz u)(x:bX P w H h a u):bX P w H' h a u:=by
 cases u with
 | lst xs=>exact x
 | dK kvs=>exact x
 | _=>exact f.elim
theorem bX.obj {P:Program}{w:World}{H:Hp}{h:Heap}{a:Addr}(f:Fz u)(x:bX P w H h a u):∃ o,h.get? a=some o:=by
 cases u with
 | lst xs=>obtain ⟨_,_,_,_,e⟩:=x; exact ⟨_,e⟩
 | dK kvs=>obtain ⟨_,_,_,_,o,_,_,e,_⟩:=x; exact ⟨o,e⟩
 | _=>exact f.elim
theorem Inv.freeze (I:Inv X pins σ H s)(e:H p=some u)(f:Fz u):∃ o,Inv X pins σ (upd H p (.frz o u)) s:=by
 obtain ⟨o,ho⟩:=(I.hok p u e).obj f
 refine ⟨o,I.un (h':=s.heap) (t':=s.toks) (adu e f) λ b v q=>?_⟩
 by_cases hb:b=p
 ·subst hb
  rw [au] at q
  cases q
  exact ⟨ho,(I.hok b u e).agu f⟩
 ·rw [ao hb] at q
  refine (I.hok b v q).rL (λ _ _ _ q=>q) (λ c r=>?_) λ c xs r=>?_
  ·have:c≠p:=λ z=>by subst z; rw [e] at r; cases r; exact f
   rw [ao this]; exact r
  ·have:c≠p:=λ z=>by subst z; rw [e] at r; cases r; exact f
   rw [ao this]; exact r
def agL (t:TE):TE:=λ σ H Q=>t σ H λ v H1=>∃ p u,v=.ref p/\H1 p=some u/\Fz u/\∀ o,Q v (upd H1 p (.frz o u))
theorem sQ {e:Expr}{t:TE}(h:PE X e t):PE X e (agL t):=by
 intro pins s σ H Q I hq
 refine thn (h pins s σ H _ I hq) λ v s1 hq29=>?_
 obtain ⟨x,H1,I1,r1,p,u,e1,e2,f,q⟩:=hq29
 obtain ⟨o,I2⟩:=I1.freeze e2 f
 exact ⟨x,_,I2,r1,q o⟩
theorem Inv.adP {D:Addr}{ys:List V}{us:List Value}{n:Nat}(I:Inv X pins σ H s)(e:s.heap.get? D=some { cls:=.type "list",data:=.seq us.toArray n })(hn:H D=none)(hv:Vals ys us)(hz:ys.length<=sizeLine)
  (h0:X.s₀.heap.objs.size<=D)(hL:D≠X.env.locals)(hc:∀ x c,X.env.cells.lookup x=some c->c≠D)(hp:∀ p∈X.pn++pins,p.1≠D):Inv X pins σ (upd H D (.lst ys)) s:=by
 have ne:∀ b u,H b=some u->b≠D:=λ b u q=>aL q hn
 refine I.step (h':=s.heap) (g':=s.gens) (d':=s.drawn) (t':=s.toks) (ch:=[D]) (λ b hb=>?_) (λ b o _ _ _ q _=>q) (λ b o _ _ _ q _=>⟨o.slots,q⟩) (λ b o hb q n=>?_) (λ b o _ q=>⟨o,q⟩)
  (λ b xs q=>by rw [ao (ne b _ q)]; exact q) (λ b o u q=>by rw [ao (ne b _ q)]; exact q) (λ b ps q=>⟨#[],by rw [ao (ne b _ q),q]; simp⟩) (λ m hm=>hm) (λ b u q=>?_) I.bare
 ·have e:b=D:=by simpa using hb
  subst e
  exact ⟨.inr h0,hL,hc,hp⟩
 ·rw [ao (λ z=>hb (by simp [z]))]; exact n
 ·by_cases hb:b=D
  ·subst hb
   rw [au] at q
   cases q
   exact ⟨hz,us,n,hv,e⟩
  ·rw [ao hb] at q
   exact (I.hok b u q).rL (λ _ _ _ q=>q) (λ c r=>by rw [ao (ne c _ r)]; exact r) λ c xs r=>by rw [ao (ne c _ r)]; exact r
end
section
variable {prog:Program}{w:World}{A:Around}{E:Value->Shared->Prop}{R:Result->Shared->Prop}{s:Shared}
abbrev qV (ifs:List Expr)(env:Env):Sem Bool:=forIn ifs true λ c r=>if r=true then do let ok <- isTrue c env (eval c env); pure (ForInStep.yield ok) else pure (ForInStep.yield r)
theorem pG {elt target iter:Expr}{ifs:List Expr}{scope:Scope}{pos:Pos}{it acc:Value}{env:Env}(I:Nat->Shared->Prop)
  (turn:∀ n s,I n s->wpAny (model prog w) A (pyNext it) (λ r s₁=>match r with
   | none=>R (.ok .next) s₁
   | some v=>wpAny (model prog w) A (letOwnedTupleGo target it v) (λ _ s₁'=>wpAny (model prog w) A (assign target env v) (λ _ s₂ =>
     wpAny (model prog w) A (qV ifs env) (λ ok s₃ =>
      if ok=true then wpAny (model prog w) A (eval elt env) (λ x s₄ =>
       wpAny (model prog w) A (call (.builtin "list.append") [acc,x]) (λ _ s₅=>∃ m,m < n/\I m s₅) (λ _ _=>False) s₄) (λ _ _=>False) s₃
      else ∃ m,m < n/\I m s₃) (λ _ _=>False) s₂) (λ _ _=>False) s₁') (λ _ _=>False) s₁) (λ _ _=>False) s)
  (n:Nat)(h:I n s) :
  codeAny (model prog w) A (.compLoop (.ListComp elt [⟨target,iter,ifs,0⟩] scope pos) 0 it acc env) R s:=by
 refine codeAny_loop rfl I (λ n s hI=>?_) n h
 show wpAny _ A ((compTurn (.ListComp elt [⟨target,iter,ifs,0⟩] scope pos) 0 it acc env).onRaise (λ x=>do noteFrame x env; theTreesLotGoes x)) _ _ s
 refine wpAny_noted ?_
 rw [compTurn_list]
 refine wpAny_bind (wpAny_standAt (wpAny_bind (wpAny_mono (turn n s hI) (λ r s₁ h₁=>?_) λ _ _ h'=>h'.elim)))
 cases r with
 | none=>exact wpAny_pure h₁
 | some v =>
  refine wpAny_bind (wpAny_mono h₁ (λ _ s₁' h₁'=>?_) λ _ _ h'=>h'.elim)
  refine wpAny_bind (wpAny_mono h₁' (λ _ s₂ h₂=>wpAny_bind (wpAny_mono h₂ (λ ok s₃ h₃=>?_) λ _ _ h'=>h'.elim)) λ _ _ h'=>h'.elim)
  cases ok with
  | false=>exact wpAny_pure ⟨rfl,h₃⟩
  | true =>
   exact wpAny_bind (wpAny_bind (wpAny_mono h₃ (λ x s₄ h₄=>wpAny_bind (wpAny_mono h₄ (λ _ s₅ h₅=>wpAny_pure (wpAny_pure ⟨rfl,h₅⟩)) λ _ _ h'=>h'.elim)) λ _ _ h'=>h'.elim))
end
theorem iU {scope:Scope}{env:Env}(h:∀ x∈scope.names,x.2=.free->∃ c,env.cells.lookup x.1=some c) :
  ∃ cl,closureFor scope env=pure cl/\(∀ n c,cl.lookup n=some c->env.cells.lookup n=some c)/\(∀ n,(n,NameKind.free)∈scope.names->∃ c,cl.lookup n=some c):=by
 have key:∀ (l:List (Str×NameKind)) (cs:List (Str×Addr)),(∀ x∈l,x.2=.free->∃ c,env.cells.lookup x.1=some c)->(∀ n c,cs.lookup n=some c->env.cells.lookup n=some c) ->
   ∃ cl:List (Str×Addr),(forIn l cs λ x r=>match x with
    | (name,kind)=>if (kind == NameKind.free)=true then do let a <- cellOf env name; pure (ForInStep.yield ((name,a) :: r)) else pure (ForInStep.yield r):Sem (List (Str×Addr)))=pure cl /\
    (∀ n c,cl.lookup n=some c->env.cells.lookup n=some c)/\(∀ n c,cs.lookup n=some c->∃ c,cl.lookup n=some c)/\(∀ n,(n,NameKind.free)∈l->∃ c,cl.lookup n=some c):=by
  intro l
  induction l with
  | nil=>intro cs _ hc; exact ⟨cs,rfl,hc,λ n c e=>⟨c,e⟩,λ n hn=>nomatch hn⟩
  | cons x l ih =>
   intro cs hl hc
   obtain ⟨name,kind⟩:=x
   by_cases hk:kind=.free
   ·subst hk
    obtain ⟨c,e⟩:=hl (name,.free) List.mem_cons_self rfl
    obtain ⟨cl,h1,h2,h3,h4⟩:=ih ((name,c) :: cs) (λ y hy=>hl y (List.mem_cons_of_mem _ hy)) (λ n d q=>by
     rw [List.lookup_cons] at q
     cases hb:n == name with
     | true =>
      rw [hb] at q
      cases q
      rw [eq_of_beq hb]; exact e
     | false =>
      rw [hb] at q
      exact hc n d q)
    refine ⟨cl,?_,h2,λ n d q=>?_,λ n hn=>?_⟩
    ·rw [List.forIn_cons]
     simp only [beq_self_eq_true,if_true,cellOf,e,pure_bind]
     exact h1
    ·cases hb:n == name with
     | true=>exact h3 n c (by rw [List.lookup_cons,hb])
     | false=>exact h3 n d (by rw [List.lookup_cons,hb]; exact q)
    ·rcases List.mem_cons.mp hn with z | z
     ·cases z
      exact h3 name c (by rw [List.lookup_cons]; simp)
     ·exact h4 n z
   ·obtain ⟨cl,h1,h2,h3,h4⟩:=ih cs (λ y hy=>hl y (List.mem_cons_of_mem _ hy)) hc
    refine ⟨cl,?_,h2,h3,λ n hn=>?_⟩
    ·rw [List.forIn_cons]
     have:(kind == NameKind.free)=false:=by simpa using hk
     simp only [this,Bool.false_eq_true,if_false,pure_bind]
     exact h1
    ·rcases List.mem_cons.mp hn with z | z
     ·cases z; exact absurd rfl hk
     ·exact h4 n z
 obtain ⟨cl,h1,h2,_,h4⟩:=key scope.names [] h (λ n c e=>by simp at e)
 refine ⟨cl,?_,h2,h4⟩
 unfold closureFor
 simp only [bind_pure]
 exact h1
theorem iY {sc:Scope}{env:Env}{x:Str}:∀ {names:List (Str×NameKind)},(names.map λ (n,k)=>if (k == NameKind.free && env.scope.kind == .function && env.kindOf n == some .cell) then (n,NameKind.cell) else (n,k)).lookup x=some .cell \/
  (names.map λ (n,k)=>if (k == NameKind.free && env.scope.kind == .function && env.kindOf n == some .cell) then (n,NameKind.cell) else (n,k)).lookup x=some .free->(∀ y∈names,y.2 ≠ .cell)->(x,NameKind.free)∈names
 | [],h,_=>by simp at h
 | (n,k) :: r,h,hc=>by
  have ih:=@iY sc env x r
  by_cases hk:(k == NameKind.free && env.scope.kind == .function && env.kindOf n == some .cell)=true
  ·simp only [List.map_cons,if_pos hk,List.lookup_cons] at h
   cases hx:x == n with
   | true =>
    have e:=eq_of_beq hx
    subst e
    simp only [Bool.and_eq_true] at hk
    have:=eq_of_beq hk.1.1
    subst this
    exact List.mem_cons_self
   | false =>
    rw [hx] at h
    exact List.mem_cons_of_mem _ (ih h λ y hy=>hc y (List.mem_cons_of_mem _ hy))
  ·simp only [List.map_cons,if_neg hk,List.lookup_cons] at h
   cases hx:x == n with
   | true =>
    rw [hx] at h
    have e:=eq_of_beq hx
    subst e
    rcases h with h | h
    ·cases h; exact absurd rfl (hc (x,.cell) List.mem_cons_self)
    ·cases h; exact List.mem_cons_self
   | false =>
    rw [hx] at h
    exact List.mem_cons_of_mem _ (ih h λ y hy=>hc y (List.mem_cons_of_mem _ hy))
theorem dM {env:Env}{x:Str}:∀ {names:List (Str×NameKind)},names.lookup x=some .free ->
  (names.map λ (n,k)=>if (k == NameKind.free && env.scope.kind == .function && env.kindOf n == some .cell) then (n,NameKind.cell) else (n,k)).lookup x=some .cell \/
  (names.map λ (n,k)=>if (k == NameKind.free && env.scope.kind == .function && env.kindOf n == some .cell) then (n,NameKind.cell) else (n,k)).lookup x=some .free
 | [],h=>by simp at h
 | (n,k) :: r,h=>by
  have ih:=@dM env x r
  by_cases hk:(k == NameKind.free && env.scope.kind == .function && env.kindOf n == some .cell)=true
  ·simp only [List.map_cons,if_pos hk,List.lookup_cons]
   cases hx:x == n with
   | true=>exact .inl rfl
   | false=>rw [List.lookup_cons,hx] at h; exact ih h
  ·simp only [List.map_cons,if_neg hk,List.lookup_cons]
   cases hx:x == n with
   | true=>rw [List.lookup_cons,hx] at h; exact .inr h
   | false=>rw [List.lookup_cons,hx] at h; exact ih h
def blk (X:Cx)(sc:Scope)(N':List Str)(cl:List (Str×Addr))(C:Addr)(s:Shared)(H:Hp)(ex:List Addr)(pins:List (Addr×Obj)):Cx :=
 {X with N:=N',s₀:=s,H₀:=H,env:=compEnvC sc cl C X.env,outer:=X.stack,ex:=ex,fn:=λ _=>false,pn:=X.pn++pins,xe:=λ _ _=>False }
def lcN (X:Cx)(own:List Str)(fr:List Nat):List Str:=own++fr.map λ j=>X.N.getD j Str.empty
def lcS (k:Nat)(fr:List Nat)(σ:St):St:=List.replicate k none++fr.map λ j=>(σ[j]?).getD none
def aen (N:List Str)(sc:Scope)(fr:List Nat):Bool:=fr.all λ j=>match N[j]? with
 | some x=>sc.names.lookup x == some .free
 | none=>false
structure mS (X:Cx)(sc:Scope)(own:List Str)(fr:List Nat):Prop where
 kind:sc.kind=.function
 cell:∀ y∈sc.names,y.2 ≠ .cell
 free:∀ y∈sc.names,y.2=.free->(X.env.kindOf y.1=some .cell\/X.env.kindOf y.1=some .free)
 names:∀ y∈sc.names,y.2=.local->sc.names.lookup y.1=some .local
 fr:aen X.N sc fr=true
def PTs (X:Cx)(ifs:List Expr)(t:TT):Prop :=
 ∀ (pins:List (Addr×Obj)) (s:Shared) (σ:St) (H:Hp) (Q:Bool->Hp->Prop),Inv X pins σ H s->t σ H Q->wpAny (model X.prog X.w) X.A (qV ifs X.env) (TP X pins σ Q) X.xe s
def ahb:TT:=λ _ H Q=>Q true H
theorem abi {X:Cx}:PTs X [] ahb:=λ _ _ _ H _ I h=>wpAny_tests_nil ⟨H,I,h⟩
theorem aaU {X:Cx}{c:Expr}{t:TT}(h:PT X c t):PTs X [c] t:=λ pins s σ H Q I q=>wpAny_tests_one (h pins s σ H Q I q)
section
variable {X:Cx}{pins:List (Addr×Obj)}{σ:St}{H:Hp}{s:Shared}{sc:Scope}{own:List Str}{fr:List Nat}{cl:List (Str×Addr)}{fp:List Addr}{C D:Addr}{s1:Shared}
theorem sE {N:List Str}{sc:Scope}{fr:List Nat}(h:aen N sc fr=true){j:Nat}(hj:j∈fr):∃ x,N[j]? = some x/\sc.names.lookup x=some .free:=by
 have q:=List.all_eq_true.mp h j hj
 cases e:N[j]? with
 | none=>simp [e] at q
 | some x =>
  simp only [e] at q
  exact ⟨x,rfl,eq_of_beq q⟩
theorem aeQ (L:mS X sc own fr)(I:Inv X pins σ H s)(hf:∀ b∈fp,kJ X pins H b)(hb:∀ b∈fp,b < s.heap.objs.size)(hC:s.heap.objs.size<=C)
  (c1:∀ n c,cl.lookup n=some c->X.env.cells.lookup n=some c)(c2:∀ n,(n,NameKind.free)∈sc.names->∃ c,cl.lookup n=some c):(blk X sc (lcN X own fr) cl C s H fp pins).Ok where
 mod:=I.ok.mod
 kind:=L.kind
 glob:=I.ok.glob
 blt:=I.ok.blt
 above:=hC
 inj:=λ x y c a b=>I.ok.inj x y c (c1 _ _ a) (c1 _ _ b)
 has:=λ x hx=>c2 x (iY (sc:=sc) (env:=X.env) hx L.cell)
 cab:=λ x c z=>absurd (show false=true from z) Bool.false_ne_true
 hd:=I.ok.hd
 frames:=I.ok.frames
 stk:=.inl rfl
 exf:=λ b z=>⟨Nat.ne_of_lt (Nat.lt_of_lt_of_le (hb b z) hC),λ x c e=>(hf b z).2.2.2.2.1 x c (c1 _ _ e)⟩
 bs:=I.bs
 bsz:=Nat.le_trans I.ok.bsz I.sz
 noex:=λ b o e z=>by
  rcases (hf b z).2.2.2.1 with q | q
  ·exact I.ok.noex b o e q
  ·exact absurd (Nat.lt_of_lt_of_le (Heap.lt_size e) (Nat.le_trans I.ok.bsz q)) (Nat.lt_irrefl _)
 exfs:=λ b z q=>by
  rcases List.mem_cons.mp (I.iO b q) with e | e
  ·exact (hf b z).2.1 e
  ·exact (hf b z).2.2.1 e
 nN:=I.stack
 frf:=I.mZ
theorem vT (L:mS X sc own fr)(I:Inv X pins σ H s)(hf:∀ b∈fp,kJ X pins H b)(hb:∀ b∈fp,b < s.heap.objs.size)(hC:s.heap.objs.size<=C)
  (c1:∀ n c,cl.lookup n=some c->X.env.cells.lookup n=some c)(c2:∀ n,(n,NameKind.free)∈sc.names->∃ c,cl.lookup n=some c)
  {h1:Heap}{tk:Nat}{m:Str->Option Value}(hn:h1.Ns C m)(k:∀ b o,s.heap.get? b=some o->h1.get? b=some o) :
  Inv (blk X sc (lcN X own fr) cl C s H fp pins) [] (lcS own.length fr σ) H { s with heap:=h1,toks:=tk }:=by
 have ok:=aeQ L I hf hb hC c1 c2
 refine ⟨ok,rfl,I.bare,Un.kept k,⟨m,hn,λ i x v e1 e2 e3=>?_⟩,λ x c e=>?_,I.hok.fresh hC,λ x c e=>I.freeC x c (c1 _ _ e),λ p hp=>?_,I.hok.kept k,?_⟩
 ·-- one of the names around
  have hi:¬ i < own.length:=λ hi=>by
   unfold lcS at e2
   rw [List.getElem?_append_left (by simpa using hi),List.getElem?_replicate] at e2
   split at e2 <;> cases e2
  have e1':(lcN X own fr)[i]? = some x:=e1
  unfold lcN at e1'
  unfold lcS at e2
  rw [List.getElem?_append_right (by omega),List.getElem?_map] at e1'
  rw [List.getElem?_append_right (by simpa using hi),List.getElem?_map,List.length_replicate] at e2
  cases q:fr[i - own.length]? with
  | none=>rw [q] at e1'; cases e1'
  | some j =>
   rw [q] at e1' e2
   obtain ⟨y,hy,hyf⟩:=sE L.fr (List.mem_of_getElem? q)
   have ex:y=x:=by
    have:=Option.some.inj e1'
    rw [<- this]
    simp [List.getD,hy]
   subst ex
   have ev:σ[j]? = some (some v):=by
    have z:(σ[j]?).getD none=some v:=Option.some.inj e2
    cases w:σ[j]? with
    | none=>rw [w] at z; cases z
    | some o=>rw [w] at z; exact congrArg some z
   have hm:(y,NameKind.free)∈sc.names:=PySem.mem_of_lookup hyf
   have hk:=L.free _ hm rfl
   have vis:Vis X.env.scope y:=by
    rcases hk with z | z
    ·exact .inr (.inl z)
    ·exact .inr (.inr z)
   obtain ⟨m0,hn0,hl⟩:=I.loc
   obtain ⟨u,r,l⟩:=hl j y v hy ev vis
   refine ⟨u,r,.inr ⟨?_,?_⟩⟩
   ·exact dM (env:=X.env) hyf
   ·obtain ⟨c,hc⟩:=c2 y hm
    rcases l with ⟨z,_⟩ | ⟨_,c',hc',hcell⟩
    ·rcases hk with q | q
     ·exact absurd (show X.env.kindOf y=some .local from z) (by rw [q]; decide)
     ·exact absurd (show X.env.kindOf y=some .local from z) (by rw [q]; decide)
    ·have:c=c':=Option.some.inj ((c1 _ _ hc).symm.trans hc')
     subst this
     obtain ⟨o,ho,hd⟩:=hcell
     exact ⟨c,hc,o,k _ _ ho,hd⟩
 ·obtain ⟨v,o,ho,hd⟩:=I.cell x c (c1 _ _ e)
  exact ⟨v,o,k _ _ ho,hd⟩
 ·have hp':p∈X.pn++pins:=by simpa [blk] using hp
  obtain ⟨a1,a2,a3,a4,a5⟩:=I.pin p hp'
  refine ⟨k _ _ a1,a2,Nat.ne_of_lt (Nat.lt_of_lt_of_le (Heap.lt_size a1) hC),λ q=>?_,a5⟩
  rcases List.mem_cons.mp (I.iO _ q) with e | e
  ·exact a3 e
  ·exact a4 e
 ·show (lcS own.length fr σ).length=(lcN X own fr).length
  simp [lcS,lcN]
end
abbrev LcW:=Nat->Nat->List V->St->Hp->Prop
def aaG (J:It)(g:TG)(tt:TT)(te:TE)(W:LcW)(Fin:List V->Hp->Prop):Prop:=∀ i m ys τ H,W i m ys τ H ->
 (J.stop i H/\Fin ys H)\/(J.go i H/\ys.length < sizeLine/\∀ x H',J.yld i H x H'->g x τ H' λ τ2 H2=>tt τ2 H2 λ b H3 =>
  if b=true then te τ2 H3 λ y H4=>∃ m',m' < m/\W (i+1) m' (ys++[y]) τ2 H4 else ∃ m',m' < m/\W (i+1) m' ys τ2 H3)
section
variable {X:Cx}{pins:List (Addr×Obj)}{σ:St}{H:Hp}{s:Shared}{sc:Scope}{own:List Str}{fr:List Nat}{cl:List (Str×Addr)}{fp:List Addr}{it:Addr}{J:It}{tn:Nat->Heap->Prop}{g:TG}{tt:TT}{te:TE}{W:LcW}{Fin:List V->Hp->Prop}
 {elt tg iter:Expr}{ifs:List Expr}{pos:Pos}{E:Value->Shared->Prop}
theorem wg {RR:Value->Addr->Result->Shared->Prop}(hc:X.calm=true)(L:mS X sc own fr)(hcl1:∀ n c,cl.lookup n=some c->X.env.cells.lookup n=some c)(hcl2:∀ n,(n,NameKind.free)∈sc.names->∃ c,cl.lookup n=some c)
  (hg:∀ C s H ex pl,PG (blk X sc (lcN X own fr) cl C s H ex pl) tg g)(ht:∀ C s H ex pl,PTs (blk X sc (lcN X own fr) cl C s H ex pl) ifs tt)(he:∀ C s H ex pl,PE (blk X sc (lcN X own fr) cl C s H ex pl) elt te)
  (I:Inv X pins σ H s)(T:Turn X.prog X.w X.K tg J fp it tn)(st:tn 0 s.heap)(hf:∀ b∈fp,kJ X pins H b)(w0:∃ m,W 0 m [] (lcS own.length fr σ) H)(turn:aaG J g tt te W Fin)
  (hRR:∀ (D C:Addr) (s':Shared) (H':Hp) (ys:List V) (us:List Value) (n:Nat) (m:Str->Option Value),Inv X pins σ H' s'->s'.heap.get? D=some { cls:=.type "list",data:=.seq us.toArray n }->Vals ys us->ys.length<=sizeLine->H' D=none->H' C=none ->
   s.heap.objs.size<=D->s.heap.objs.size<=C->D≠C->s'.heap.Ns C m->Fin ys H'->RR (.ref D) C (.ok .next) s') :
  wpAny (model X.prog X.w) X.A (newList []) (λ acc s₃=>wpAny (model X.prog X.w) X.A (newFunctionEnv sc X.env.globals cl [] X.env.qual none .none (some X.env)) (λ cenv s₄ =>
   codeAny (model X.prog X.w) X.A (.compStart (.ListComp elt [⟨tg,iter,ifs,0⟩] sc pos) 0 (.ref it) acc { cenv with scope:=relabel sc X.env }) (RR acc cenv.locals) s₄) E s₃) E s:=by
 refine wpAny_newObj_type (wpAny_newFunctionEnv L.cell (by intro y hy; simp at hy) (λ h₁ hns₁ hsb₁=>?_) L.kind)
 dsimp only at hns₁ hsb₁ ⊢
 generalize hH2:s.heap.push { cls:=.type "list",dict:=none,data:=.seq ([]:List Value).toArray }=H2 at hns₁ hsb₁ ⊢
 have hCs:H2.objs.size=s.heap.objs.size+1:=by rw [<- hH2,Heap.size_push]
 have hD0:s.heap.objs.size≠H2.objs.size:=by rw [hCs]; exact Nat.ne_of_lt (Nat.lt_succ_self _)
 have hCle:s.heap.objs.size<=H2.objs.size:=by rw [hCs]; exact Nat.le_succ _
 have below:∀ b,b < s.heap.objs.size->b≠H2.objs.size/\b≠s.heap.objs.size:=λ b hb=>⟨by rw [hCs]; exact Nat.ne_of_lt (Nat.lt_succ_of_lt hb),Nat.ne_of_lt hb⟩
 have old:∀ b o,s.heap.get? b=some o->h₁.get? b=some o:=λ b o e=>hsb₁.extBut b o (below b (Heap.lt_size e)).1 (Heap.get?_push_of_some _ (hH2 ▸ Heap.get?_push_of_some _ e))
 have hacc:h₁.get? s.heap.objs.size=some { cls:=.type "list",data:=.seq ([]:List Value).toArray 0 }:=hsb₁.extBut _ _ hD0 (Heap.get?_push_of_some _ (hH2 ▸ Heap.get?_push_size _ rfl))
 have hfb:∀ b∈fp,b < s.heap.objs.size:=λ b hb=>by
  obtain ⟨o,e,_⟩:=T.obj 0 _ st b hb
  exact Heap.lt_size e
 have I1:Inv (blk X sc (lcN X own fr) cl H2.objs.size s H fp pins) [] (lcS own.length fr σ) H { s with heap:=h₁,toks:=s.toks+([]:List (Str×Value)).length }:=vT L I hf hfb hCle hcl1 hcl2 hns₁ old
 have st1:tn 0 h₁:=T.keep 0 _ _ st λ b _ o e=>old b o e
 generalize hY:blk X sc (lcN X own fr) cl H2.objs.size s H fp pins=Y at I1
 have hYp:Y.prog=X.prog:=by rw [<- hY]; rfl
 have hYw:Y.w=X.w:=by rw [<- hY]; rfl
 have hYK:Y.K=X.K:=by rw [<- hY]; rfl
 have hYA:Y.A=X.A:=by rw [<- hY]; rfl
 have hYc:Y.calm=true:=by rw [<- hY]; exact hc
 have hYe:Y.env=compEnvC sc cl H2.objs.size X.env:=by rw [<- hY]; rfl
 have hYx:Y.xe=λ _ _=>False:=by rw [<- hY]; rfl
 have hYpn:Y.pn=X.pn++pins:=by rw [<- hY]; rfl
 have hYs:Y.s₀=s:=by rw [<- hY]; rfl
 have hYH:Y.H₀=H:=by rw [<- hY]; rfl
 have hYex:Y.ex=fp:=by rw [<- hY]; rfl
 have hYfs:Y.fs=frs X.stack:=by rw [<- hY]; rfl
 have gY:=hg H2.objs.size s H fp pins
 have tY:=ht H2.objs.size s H fp pins
 have eY:=he H2.objs.size s H fp pins
 rw [hY] at gY tY eY
 have D_pin:∀ p∈Y.pn++([]:List (Addr×Obj)),p.1≠s.heap.objs.size:=λ p hp=>by
  rw [hYpn,List.append_nil] at hp
  exact (below _ (Heap.lt_size (I.pin p hp).1)).2
 have D_cell:∀ x c,Y.env.cells.lookup x=some c->c≠s.heap.objs.size:=λ x c e=>by
  rw [hYe] at e
  obtain ⟨v,z⟩:=I.cell x c (hcl1 _ _ e)
  exact (below _ z.lt).2
 have D_loc:s.heap.objs.size≠Y.env.locals:=by rw [hYe]; exact hD0
 have D_fs:s.heap.objs.size ∉ Y.fs:=by
  rw [hYfs]
  intro z
  rcases List.mem_cons.mp (I.iO _ z) with e | e
  ·exact absurd I.lt (by rw [<- e]; exact Nat.lt_irrefl _)
  ·exact I.agJ (Nat.le_refl _) e
 have fpY:∀ {H':Hp} (pl:List (Addr×Obj)),(∀ b∈fp,H' b=none)->(∀ p∈pl,p.1=s.heap.objs.size)->∀ b∈fp,kJ Y pl H' b:=λ {H'} pl hn hp b hb=>by
  obtain ⟨_,f1,f2,f3,f4,f5⟩:=hf b hb
  refine ⟨hn b hb,by rw [hYe]; exact (below b (hfb b hb)).1,?_,.inl (by rw [hYex]; exact hb),λ x c e=>?_,λ p q=>?_⟩
  ·rw [hYfs]
   intro z
   rcases List.mem_cons.mp (I.iO _ z) with e | e
   ·exact f1 e
   ·exact f2 e
  ·rw [hYe] at e
   exact f4 x c (hcl1 _ _ e)
  ·rcases List.mem_append.mp q with z | z
   ·rw [hYpn] at z
    exact f5 p z
   ·rw [hp p z]
    exact Ne.symm (below b (hfb b hb)).2
 have loop:∀ s₃:Shared,s₃={ s with heap:=h₁,toks:=s.toks+([]:List (Str×Value)).length } ->
   codeAny (model X.prog X.w) X.A (.compLoop (.ListComp elt [⟨tg,iter,ifs,0⟩] sc pos) 0 (.ref it) (.ref s.heap.objs.size) (compEnvC sc cl H2.objs.size X.env)) (RR (.ref s.heap.objs.size) H2.objs.size) s₃:=by
  rintro s₃ rfl
  obtain ⟨m0,w0⟩:=w0
  refine pG (λ n s'=>∃ i ys τ H' us k,Inv Y [] τ H' s'/\tn i s'.heap/\(∀ b∈fp,H' b=none)/\H' s.heap.objs.size=none/\s'.heap.get? s.heap.objs.size=some { cls:=.type "list",data:=.seq us.toArray k }/\Vals ys us/\ys.length<=sizeLine/\W i n ys τ H') ?_ m0
   ⟨0,[],_,H,[],0,I1,st1,λ b hb=>(hf b hb).1,I.hok.fresh (Nat.le_refl _),hacc,.nil,Nat.zero_le _,w0⟩
  rintro n s' ⟨i,ys,τ,H',us,k,I',st',hn',hD',ha',hv',hz',w'⟩
  have Ip:Inv Y [(s.heap.objs.size,{ cls:=.type "list",data:=.seq us.toArray k })] τ H' s':=I'.ee λ p hp=>by
   have e:p=(s.heap.objs.size,{ cls:=.type "list",data:=.seq us.toArray k }):=by simpa using hp
   subst e
   exact ⟨ha',hD',D_loc,D_fs,λ v z=>nomatch (show Data.seq _ _=Data.cell v from z)⟩
  have onlyD:∀ p∈[((s.heap.objs.size,{ cls:=.type "list",data:=.seq us.toArray k }):Addr×Obj)],p.1=s.heap.objs.size:=λ p hp=>by
   have e:p=(s.heap.objs.size,{ cls:=.type "list",data:=.seq us.toArray k }):=by simpa using hp
   subst e
   rfl
  rcases turn i n ys τ H' w' with ⟨stop,fin⟩ | ⟨go,hlen,step⟩
  ·have q:=T.done Y hYp hYw hYK hYc i _ s' τ H' (λ _ _=>False) Ip (fpY _ hn' onlyD) st' stop
   rw [hYA] at q
   refine thn q λ r s4 hq30=>?_
   obtain ⟨hr,I4⟩:=hq30
   subst hr
   have un:Un (frs X.stack) fp H H' s.heap s4.heap:=by
    have z:=I4.base
    rw [hYfs,hYex,hYH,hYs] at z
    exact z
   have os4:s4.os=s.os:=by
    have z:=I4.os
    rw [hYs] at z
    exact z
   have hok4:HOk X.prog X.w H' s4.heap:=by
    have z:=I4.hok
    rw [hYp,hYw] at z
    exact z
   have hch:∀ b∈fp,(b∈X.ex\/X.s₀.heap.objs.size<=b)/\b≠X.env.locals/\(∀ x c,X.env.cells.lookup x=some c->c≠b)/\∀ p∈X.pn++pins,p.1≠b:=λ b hb=>by
    obtain ⟨_,f1,f2,f3,f4,f5⟩:=hf b hb
    exact ⟨f3,f1,f4,f5⟩
   have IX:Inv X pins σ H' s4:=I.abb os4 un hok4 I4.bare hch
   obtain ⟨mC,hmC,_⟩:=I4.loc
   have hCf:=I4.free
   rw [hYe] at hmC hCf
   have pD:=I4.pin (s.heap.objs.size,{ cls:=.type "list",data:=.seq us.toArray k }) (List.mem_append_right _ (List.mem_singleton.mpr rfl))
   exact hRR _ _ s4 H' ys us k mC IX pD.1 hv' hz' pD.2.1 hCf (Nat.le_refl _) hCle hD0 hmC fin
  ·have q:=T.item Y hYp hYw hYK hYc i _ s' τ H' (λ _ _=>False) Ip (fpY _ hn' onlyD) st' go
   rw [hYA] at q
   refine thn q λ r s4 hq31=>?_
   obtain ⟨u,hr,h4⟩:=hq31
   subst hr
   refine thn h4 λ _ s5 hq32=>?_
   obtain ⟨x,H5,I5,r5,y5,st5,fr5⟩:=hq32
   have I5':=I5.pinned (fpY _ fr5 onlyD) (T.obj _ _ st5)
   have g5:=gY _ s5 τ H5 x u _ I5' r5 (step x H5 y5)
   rw [hYp,hYw,hYA,hYe,hYx] at g5
   refine thn g5 λ _ s6 hq33=>?_
   obtain ⟨σ6,H6,I6,q6⟩:=hq33
   have t6:=tY _ s6 σ6 H6 _ I6 q6
   rw [hYp,hYw,hYA,hYe,hYx] at t6
   refine thn t6 λ ok s7 hq34=>?_
   obtain ⟨H7,I7,q7⟩:=hq34
   have keepD:∀ {σ8:St} {H8:Hp} {s8:Shared},Inv Y ([(s.heap.objs.size,{ cls:=.type "list",data:=.seq us.toArray k })]++kj fp s5.heap) σ8 H8 s8->s8.heap.get? s.heap.objs.size=some { cls:=.type "list",data:=.seq us.toArray k }/\H8 s.heap.objs.size=none :=
    λ {σ8 H8 s8} I8=>by
     have pD:=I8.pin (s.heap.objs.size,{ cls:=.type "list",data:=.seq us.toArray k }) (List.mem_append_right _ (List.mem_append_left _ (List.mem_singleton.mpr rfl)))
     exact ⟨pD.1,pD.2.1⟩
   have keepI:∀ {σ8:St} {H8:Hp} {s8:Shared},Inv Y ([(s.heap.objs.size,{ cls:=.type "list",data:=.seq us.toArray k })]++kj fp s5.heap) σ8 H8 s8->tn (i+1) s8.heap/\∀ b∈fp,H8 b=none :=
    λ {σ8 H8 s8} I8=>by
     refine ⟨T.keep _ _ _ st5 λ b hb o e=>(I8.pin (b,o) (List.mem_append_right _ (List.mem_append_right _ (dz hb e)))).1,λ b hb=>?_⟩
     obtain ⟨o,e,d⟩:=T.obj _ _ st5 b hb
     exact (I8.pin (b,o) (List.mem_append_right _ (List.mem_append_right _ (dz hb e)))).2.1
   cases ok with
   | false =>
    rw [if_neg Bool.false_ne_true] at q7 ⊢
    obtain ⟨m',hm',w7⟩:=q7
    obtain ⟨a7,b7⟩:=keepD I7
    obtain ⟨c7,d7⟩:=keepI I7
    exact ⟨m',hm',i+1,ys,σ6,H7,us,k,I7.ee (λ p hp=>(nomatch hp)),c7,d7,b7,a7,hv',hz',w7⟩
   | true =>
    rw [if_pos rfl] at q7 ⊢
    have e7:=eY _ s7 σ6 H7 _ I7 q7
    rw [hYp,hYw,hYA,hYe,hYx] at e7
    refine thn e7 λ v s8 hq35=>?_
    obtain ⟨y,H8,I8,r8,m',hm',w8⟩:=hq35
    obtain ⟨a8,b8⟩:=keepD I8
    obtain ⟨c8,d8⟩:=keepI I8
    have hl:=hv'.length
    refine call_meets F.slot_list_append ⟨_,a8,rfl⟩ F.entry_list_append (F.args_list_append_2 _ _) (PySem.list_append s.heap.objs.size us.toArray k v (by rw [List.size_toArray]; omega)) ⟨a8,?_⟩
    have qu:=PySem.IsL.update a8 (λ xs=>xs.push v)
    have I9:=(I8.ee (pins':=[]) λ p hp=>nomatch hp).turned (it:=s.heap.objs.size) (t':=s8.toks) (h':=s8.heap.update s.heap.objs.size (Obj.mapSeq λ xs=>xs.push v)) (λ b o hb e=>(Heap.get?_update_other s8.heap _ (Ne.symm hb)).trans e) b8 D_loc (.inr (by rw [hYs]; exact Nat.le_refl _)) D_cell D_pin
    have ep:us.toArray.push v=(us++[v]).toArray:=by simp
    rw [ep] at qu
    refine ⟨m',hm',i+1,ys++[y],σ6,H8,us++[v],(if (us++[v]).toArray.size == us.toArray.size then k else k+1),I9,T.keep _ _ _ c8 λ b hb o e=>(Heap.get?_update_other s8.heap _ (Ne.symm (below b (hfb b hb)).2)).trans e,d8,b8,?_,hv'.append (.cons r8 .nil),?_,w8⟩
    ·exact qu
    ·rw [List.length_append,List.length_singleton]; omega
 exact codeAny_compStart_list (loop _ rfl) (T.self _ 0 _ _ _ st1 (loop _ rfl))
def tLC (wi:TI)(g:TG)(tt:TT)(te:TE)(k:Nat)(fr:List Nat):TE:=λ σ H Q=>wi σ H λ J H1=>∃ W:LcW,(∃ m,W 0 m [] (lcS k fr σ) H1)/\aaG J g tt te W λ ys H2=>∀ p,H2 p=none->Q (.ref p) (upd H2 p (.lst ys))
theorem iD (L:mS X sc own fr)(ok:X.Ok):∃ cl,closureFor sc X.env=pure cl/\(∀ n c,cl.lookup n=some c->X.env.cells.lookup n=some c)/\(∀ n,(n,NameKind.free)∈sc.names->∃ c,cl.lookup n=some c) :=
 iU λ x hx hf=>ok.has x.1 (L.free x hx hf)
theorem adt {wi:TI}(hc:X.calm=true)(L:mS X sc own fr)(hi:PI X tg iter wi)
  (hg:∀ cl C s H ex pl,PG (blk X sc (lcN X own fr) cl C s H ex pl) tg g)(ht:∀ cl C s H ex pl,PTs (blk X sc (lcN X own fr) cl C s H ex pl) ifs tt)(he:∀ cl C s H ex pl,PE (blk X sc (lcN X own fr) cl C s H ex pl) elt te)
  (hs:∀ x,foldedSetIterable iter X.env x=pure x:=by intro _; rfl):PE X (.ListComp elt [⟨tg,iter,ifs,0⟩] sc pos) (tLC wi g tt te own.length fr):=by
 intro pins s σ H Q I h
 obtain ⟨cl,hcl,c1,c2⟩:=iD L I.ok
 rw [eval_ListComp]
 refine wpAny_comprehension_free (use:=none) (g:=⟨tg,iter,ifs,0⟩) (gs:=[]) rfl hs hcl L.kind L.names ?_
 refine thn (hi pins s σ H _ I h) λ v s1 h1=>thn h1 λ itv s2 h2=>?_
 obtain ⟨it,fp,tn,J,H2,e,I2,T,st2,f2,W,w0,turn⟩:=h2
 subst e
 refine wg (cl:=cl) hc L c1 c2 (hg cl) (ht cl) (he cl) I2 T st2 f2 w0 turn λ D C s' H' ys us n m I' a' hv hz hD hC dD dC hDC hns fin=>?_
 refine ⟨m,hns,λ h' sb=>?_⟩
 have far:∀ b,s2.heap.objs.size<=b->(X.s₀.heap.objs.size<=b)/\b≠X.env.locals/\(∀ x c,X.env.cells.lookup x=some c->c≠b)/\∀ p∈X.pn++pins,p.1≠b:=λ b hb=>by
  obtain ⟨_,f1,_,f3,f4,f5⟩:=I2.sy (H':=λ _=>none) hb rfl
  refine ⟨Nat.le_trans I2.sz hb,f1,f4,f5⟩
 obtain ⟨z1,z2,z3,z4⟩:=far C dC
 obtain ⟨y1,y2,y3,y4⟩:=far D dD
 have I3:Inv X pins σ H' { s' with heap:=h' }:=I'.turned (t':=s'.toks) (λ b o hb e=>sb.extBut b o hb e) hC z2 (.inr z1) z3 z4
 exact ⟨.ref D,_,I3.adP (sb.extBut _ _ hDC a') hD hv hz y1 y2 y3 y4,rfl,fin D hD⟩
theorem sG {wi:TI}{i:Nat}{x:Str}{pos' spos:Pos}(hN:X.N.Nodup)(hi':X.N[i]? = some x)(hx:Loc X.env.scope x)(hc:X.calm=true)(L:mS X sc own fr)(hi:PI X tg iter wi)
  (hg:∀ cl C s H ex pl,PG (blk X sc (lcN X own fr) cl C s H ex pl) tg g)(ht:∀ cl C s H ex pl,PTs (blk X sc (lcN X own fr) cl C s H ex pl) ifs tt)(he:∀ cl C s H ex pl,PE (blk X sc (lcN X own fr) cl C s H ex pl) elt te)
  (hsw:swapsWith (.ListComp elt [⟨tg,iter,ifs,0⟩] sc pos) (some (.Name x pos')) spos.line X.env=pure true:=by rfl)
  (hs:∀ x,foldedSetIterable iter X.env x=pure x:=by intro _; rfl)(hf:X.fn x=true\/X.env.scope.names.lookup x=some .local:=by first | exact .inl rfl | exact .inr rfl | assumption) :
  PS X (.Assign [.Name x pos'] (.ListComp elt [⟨tg,iter,ifs,0⟩] sc pos) spos) (aff (tLC wi g tt te own.length fr) (abx i)):=by
 intro pins s σ H D' I h
 obtain ⟨cl,hcl,c1,c2⟩:=iD L I.ok
 rw [exec_Assign_Name_used _ _ _ _ hsw]
 refine wpAny_bind (wpAny_standAt (wpAny_bind ?_))
 show wpAny _ _ (evalThenUse (.ListComp elt [⟨tg,iter,ifs,0⟩] sc pos) X.env (assign (.Name x pos') X.env)) _ _ _
 unfold evalThenUse
 refine wpAny_bind ?_
 refine wpAny_comprehension_free (use:=some (assign (.Name x pos') X.env)) (g:=⟨tg,iter,ifs,0⟩) (gs:=[]) rfl hs hcl L.kind L.names ?_
 refine thn (hi pins s σ H _ I h) λ v s1 h1=>thn h1 λ itv s2 h2=>?_
 obtain ⟨it,fp,tn,J,H2,e,I2,T,st2,f2,W,w0,turn⟩:=h2
 subst e
 refine wg (cl:=cl) hc L c1 c2 (hg cl) (ht cl) (he cl) I2 T st2 f2 w0 turn λ D C s' H' ys us n m I' a' hv hz hD hC dD dC hDC hns fin=>?_
 have far:∀ b,s2.heap.objs.size<=b->(X.s₀.heap.objs.size<=b)/\b≠X.env.locals/\(∀ x c,X.env.cells.lookup x=some c->c≠b)/\(b ∉ X.fs)/\∀ p∈X.pn++pins,p.1≠b:=λ b hb=>by
  obtain ⟨_,f1,f2,f3,f4,f5⟩:=I2.sy (H':=λ _=>none) hb rfl
  refine ⟨Nat.le_trans I2.sz hb,f1,f4,f2,f5⟩
 obtain ⟨z1,z2,z3,z0,z4⟩:=far C dC
 obtain ⟨y1,y2,y3,_,y4⟩:=far D dD
 have I3:=I'.adP a' hD hv hz y1 y2 y3 y4
 obtain ⟨oC,hoC,nsC⟩:∃ o,s'.heap.get? C=some o/\∃ es ep,o.data=.dict es ep:=by
  obtain ⟨o,es,ep,e1,e2,_⟩:=hns
  exact ⟨o,e1,es,ep,e2⟩
 have hCt:(upd H' D (.lst ys)) C=none:=by rw [ao (Ne.symm hDC)]; exact hC
 have I4:Inv X (pins++[(C,oC)]) σ (upd H' D (.lst ys)) s':=I3.ee λ p hp=>by
  rcases List.mem_append.mp hp with z | z
  ·exact I3.pin p (List.mem_append_right _ z)
  ·have e:p=(C,oC):=by simpa using z
   subst e
   obtain ⟨es,ep,hd⟩:=nsC
   exact ⟨hoC,hCt,z2,z0,λ v z=>by have z':oC.data=.cell v:=z; rw [hd] at z'; cases z'⟩
 refine thn (xo (pos:=pos') hN hi' hx hf _ s' σ _ (.ref D) (.ref D) _ I4 rfl (fin D hD)) λ _ s5 hq36=>?_
 obtain ⟨σ5,H5,I5,q5⟩:=hq36
 have pC:=I5.pin (C,oC) (List.mem_append_right _ (List.mem_append_right _ (List.mem_singleton.mpr rfl)))
 obtain ⟨o,es,ep,e1,e2,e3⟩:=hns
 rw [hoC] at e1
 cases e1
 refine ⟨m,⟨oC,es,ep,pC.1,e2,e3⟩,λ h' sb=>?_⟩
 have I6:Inv X pins σ5 H5 { s5 with heap:=h' }:=(I5.jg).turned (t':=s5.toks) (λ b o hb e=>sb.extBut b o hb e) pC.2.1 z2 (.inr z1) z3 z4
 exact wpAny_pure (wpAny_pure ⟨σ5,H5,I6,q5⟩)
end
end L2
namespace D
open PySem PySem.Spec PyProof.Rows L2
abbrev St:=L2.St
structure Kp (H H':Hp):Prop where
 tup:∀ b xs,H b=some (.tup xs)->H' b=some (.tup xs)
 frz:∀ b o u,H b=some (.frz o u)->H' b=some (.frz o u)
theorem Kp.refl (H:Hp):Kp H H:=⟨λ _ _ e=>e,λ _ _ _ e=>e⟩
theorem Kp.trans {H H1 H2:Hp}(a:Kp H H1)(b:Kp H1 H2):Kp H H2:=⟨λ c xs e=>b.tup c xs (a.tup c xs e),λ c o u e=>b.frz c o u (a.frz c o u e)⟩
theorem Kp.new {H:Hp}{p:Addr}{o:HO}(h:H p=none):Kp H (upd H p o):=⟨λ b xs e=>by rw [ao (aL e h)]; exact e,λ b ob u e=>by rw [ao (aL e h)]; exact e⟩
theorem Kp.set {H:Hp}{p:Addr}{o u:HO}(h:H p=some u)(ht:∀ xs,u ≠ .tup xs)(hf:∀ ob v,u ≠ .frz ob v):Kp H (upd H p o) :=
 ⟨λ b xs e=>by rw [ao (uE e h λ z=>ht _ z.symm)]; exact e,λ b ob v e=>by rw [ao (uE e h λ z=>hf _ _ z.symm)]; exact e⟩
theorem Kp.un {fs ex:List Addr}{H H':Hp}{h h':Heap}(u:Un fs ex H H' h h'):Kp H H':=⟨u.tups,u.frzs⟩
def SqF (K:PySem.W.Frag)(H:Hp)(a:Addr)(xs:List V):Prop :=
 (∃ o,H a=some (.frz o (.lst xs)))\/∃ (o:Obj) (its:Array Value) (n:Nat),K.lookup a=some o/\o.cls=.type "list" /\ o.dict=none/\o.data=.seq its n/\its.size<=sizeLine/\Vals xs its.toList
theorem SqF.sq {K:PySem.W.Frag}{H:Hp}{a:Addr}{xs:List V}(h:SqF K H a xs):SqL K H a xs:=by
 rcases h with h | h
 ·exact .inl (.inr h)
 ·exact .inr h
theorem SqF.keep {K:PySem.W.Frag}{H H':Hp}{a:Addr}{xs:List V}(k:Kp H H')(h:SqF K H a xs):SqF K H' a xs:=by
 rcases h with ⟨o,h⟩ | h
 ·exact .inl ⟨o,k.frz _ _ _ h⟩
 ·exact .inr h
theorem SqT.keep {K:PySem.W.Frag}{H H':Hp}{a:Addr}{xs:List V}(k:Kp H H')(h:SqT K H a xs):SqT K H' a xs:=by
 rcases h with (h | ⟨o,h⟩) | h
 ·exact .inl (.inl (k.tup _ _ h))
 ·exact .inl (.inr ⟨o,k.frz _ _ _ h⟩)
 ·exact .inr h
def xJ:Key->PyData
 | .inl i=>.int i
 | .inr x=>.str x
mutual
def ay (K:PySem.W.Frag)(H:Hp):PyData->V->Prop
 | .none,v=>v=.non
 | .bool b,v=>v=.bl b
 | .int i,v=>v=.int i
 | .str x,v=>v=.str x
 | .list ds,v=>∃ a vs,v=.ref a/\SqF K H a vs/\bj K H ds vs
 | .tuple ds,v=>∃ a vs,v=.ref a/\SqT K H a vs/\bj K H ds vs
 | .dict kvs,v=>∃ a o l,v=.ref a/\H a=some (.frz o (.dK l))/\nv K H kvs l
def bj (K:PySem.W.Frag)(H:Hp):List PyData->List V->Prop
 | [],vs=>vs=[]
 | d :: ds,vs=>∃ v r,vs=v :: r/\ay K H d v/\bj K H ds r
def nv (K:PySem.W.Frag)(H:Hp):List (PyData×PyData)->List (Key×V)->Prop
 | [],l=>l=[]
 | (k,d) :: ds,l=>∃ key v r,l=(key,v) :: r/\k=xJ key/\ay K H d v/\nv K H ds r
end
mutual
theorem ay.keep {K:PySem.W.Frag}{H H':Hp}(k:Kp H H'):∀ {d:PyData} {v:V},ay K H d v->ay K H' d v
 | .none,v,h=>by simp only [ay] at h ⊢; exact h
 | .bool b,v,h=>by simp only [ay] at h ⊢; exact h
 | .int i,v,h=>by simp only [ay] at h ⊢; exact h
 | .str x,v,h=>by simp only [ay] at h ⊢; exact h
 | .list ds,v,h=>by
  simp only [ay] at h ⊢
  obtain ⟨a,vs,e,s,r⟩:=h
  exact ⟨a,vs,e,s.keep k,bj.keep k r⟩
 | .tuple ds,v,h=>by
  simp only [ay] at h ⊢
  obtain ⟨a,vs,e,s,r⟩:=h
  exact ⟨a,vs,e,SqT.keep k s,bj.keep k r⟩
 | .dict kvs,v,h=>by
  simp only [ay] at h ⊢
  obtain ⟨a,o,l,e,s,r⟩:=h
  exact ⟨a,o,l,e,k.frz _ _ _ s,nv.keep k r⟩
theorem bj.keep {K:PySem.W.Frag}{H H':Hp}(k:Kp H H'):∀ {ds:List PyData} {vs:List V},bj K H ds vs->bj K H' ds vs
 | [],vs,h=>by simp only [bj] at h ⊢; exact h
 | d :: ds,vs,h=>by
  simp only [bj] at h ⊢
  obtain ⟨v,r,e,h1,h2⟩:=h
  exact ⟨v,r,e,ay.keep k h1,bj.keep k h2⟩
theorem nv.keep {K:PySem.W.Frag}{H H':Hp}(k:Kp H H'):∀ {ds:List (PyData×PyData)} {l:List (Key×V)},nv K H ds l->nv K H' ds l
 | [],l,h=>by simp only [nv] at h ⊢; exact h
 | (key,d) :: ds,l,h=>by
  simp only [nv] at h ⊢
  obtain ⟨k',v,r,e,ek,h1,h2⟩:=h
  exact ⟨k',v,r,e,ek,ay.keep k h1,nv.keep k h2⟩
end
theorem bj.length {K:PySem.W.Frag}{H:Hp}:∀ {ds:List PyData} {vs:List V},bj K H ds vs->vs.length=ds.length
 | [],vs,h=>by simp only [bj] at h; rw [h]; rfl
 | d :: ds,vs,h=>by
  simp only [bj] at h
  obtain ⟨v,r,e,_,h2⟩:=h
  rw [e,List.length_cons,List.length_cons,bj.length h2]
theorem bj.get {K:PySem.W.Frag}{H:Hp}:∀ {ds:List PyData} {vs:List V} {i:Nat} {d:PyData},bj K H ds vs->ds[i]? = some d->∃ v,vs[i]? = some v/\ay K H d v
 | [],_,_,_,_,e=>by simp at e
 | d :: ds,vs,0,d',h,e=>by
  simp only [bj] at h
  obtain ⟨v,r,ev,h1,_⟩:=h
  simp at e
  subst e
  exact ⟨v,by rw [ev]; rfl,h1⟩
 | d :: ds,vs,i+1,d',h,e=>by
  simp only [bj] at h
  obtain ⟨v,r,ev,_,h2⟩:=h
  obtain ⟨v',e1,e2⟩:=bj.get (i:=i) h2 (by simpa using e)
  exact ⟨v',by rw [ev]; simpa using e1,e2⟩
theorem bj.get' {K:PySem.W.Frag}{H:Hp}{ds:List PyData}{vs:List V}{i:Nat}{v:V}(h:bj K H ds vs)(e:vs[i]? = some v):∃ d,ds[i]? = some d/\ay K H d v:=by
 have hi:i < ds.length:=by
  have:=(List.getElem?_eq_some_iff.mp e).1
  rw [h.length] at this
  exact this
 obtain ⟨v',e1,r⟩:=h.get (i:=i) (d:=ds[i]) (by simp [hi])
 rw [e] at e1
 cases e1
 exact ⟨ds[i],by simp [hi],r⟩
theorem bj.ints {K:PySem.W.Frag}{H:Hp}:∀ (ns:List Int),bj K H (ns.map PyData.int) (ns.map V.int)
 | []=>by simp [bj]
 | n :: ns=>by
  simp only [List.map_cons,bj]
  exact ⟨_,_,rfl,by simp [ay],bj.ints ns⟩
theorem bj.append {K:PySem.W.Frag}{H:Hp}:∀ {ds es:List PyData} {vs us:List V},bj K H ds vs->bj K H es us->bj K H (ds++es) (vs++us)
 | [],es,vs,us,h,q=>by simp only [bj] at h; subst h; exact q
 | d :: ds,es,vs,us,h,q=>by
  simp only [bj] at h
  obtain ⟨v,r,e,h1,h2⟩:=h
  subst e
  simp only [List.cons_append,bj]
  exact ⟨v,r++us,rfl,h1,bj.append h2 q⟩
theorem bj.drop {K:PySem.W.Frag}{H:Hp}:∀ {ds:List PyData} {vs:List V} (n:Nat),bj K H ds vs->bj K H (ds.drop n) (vs.drop n)
 | ds,vs,0,h=>by simpa using h
 | [],vs,n+1,h=>by simp only [bj] at h; subst h; simp [bj]
 | d :: ds,vs,n+1,h=>by
  simp only [bj] at h
  obtain ⟨v,r,e,_,h2⟩:=h
  subst e
  simpa using bj.drop n h2
theorem bj.take {K:PySem.W.Frag}{H:Hp}:∀ {ds:List PyData} {vs:List V} (n:Nat),bj K H ds vs->bj K H (ds.take n) (vs.take n)
 | ds,vs,0,h=>by simp [bj]
 | [],vs,n+1,h=>by simp only [bj] at h; subst h; simp [bj]
 | d :: ds,vs,n+1,h=>by
  simp only [bj] at h
  obtain ⟨v,r,e,h1,h2⟩:=h
  subst e
  simp only [List.take_succ_cons,bj]
  exact ⟨v,_,rfl,h1,bj.take n h2⟩
inductive W where
 | d (x:PyData)
 | m (a:Addr)
 | t (n:String)
inductive MO where
 | lst (ws:List W)
 | dic (kvs:List (Key×W))
 | dct (kvs:List (List Key×W))
 | fdic (kvs:List (Key×W))
 | ins (C:Addr) (fs:List (Str×W))
 | tup (ws:List W)
 | flst (ws:List W)
 | exc (C:Addr) (fs:List (Str×W))
 | code (q:Str) (pos:Pos)
abbrev MH:=Addr->Option MO
def aK (M:MH)(a:Addr)(o:MO):MH:=λ b=>if b=a then some o else M b
theorem aa {M:MH}{a:Addr}{o:MO}:aK M a o a=some o:=if_pos rfl
theorem ah {M:MH}{a b:Addr}{o:MO}(h:b≠a):aK M a o b=M b:=if_neg h
theorem jW {M:MH}{a:Addr}{o u:MO}:aK (aK M a o) a u=aK M a u:=by funext b; unfold aK; split <;> rfl
abbrev DS:=List (Option W)
def az (K:PySem.W.Frag)(H:Hp):W->V->Prop
 | .d x,v=>ay K H x v
 | .m a,v=>v=.ref a
 | .t n,v=>v=.ty n
theorem az.keep {K:PySem.W.Frag}{H H':Hp}(k:Kp H H'):∀ {w:W} {v:V},az K H w v->az K H' w v
 | .d _,_,h=>ay.keep k h
 | .m _,_,h=>h
 | .t _,_,h=>h
def aJ (K:PySem.W.Frag)(H:Hp):List W->List V->Prop:=Paired (az K H)
theorem aJ.keep {K:PySem.W.Frag}{H H':Hp}(k:Kp H H'){ws:List W}{vs:List V}(h:aJ K H ws vs):aJ K H' ws vs:=Paired.je h λ _ _ r=>r.keep k
theorem aJ.length {K:PySem.W.Frag}{H:Hp}{ws:List W}{vs:List V}(h:aJ K H ws vs):ws.length=vs.length:=Paired.length h
theorem aJ.get {K:PySem.W.Frag}{H:Hp}:∀ {ws:List W} {vs:List V} {i:Nat} {w:W},aJ K H ws vs->ws[i]? = some w->∃ v,vs[i]? = some v/\az K H w v
 | _,_,_,_,.nil,e=>by simp at e
 | _,_,0,_,.cons r _,e=>by simp at e; subst e; exact ⟨_,rfl,r⟩
 | _,_,i+1,_,.cons _ t,e=>by
  obtain ⟨u,h1,h2⟩:=aJ.get (i:=i) t (by simpa using e)
  exact ⟨u,by simpa using h1,h2⟩
theorem aJ.set {K:PySem.W.Frag}{H:Hp}{w:W}{v:V}(r:az K H w v):∀ {ws:List W} {vs:List V} (i:Nat),aJ K H ws vs->aJ K H (ws.set i w) (vs.set i v)
 | _,_,_,.nil=>.nil
 | _,_,0,.cons _ t=>.cons r t
 | _,_,i+1,.cons q t=>.cons q (aJ.set r i t)
theorem aJ.append {K:PySem.W.Frag}{H:Hp}:∀ {ws ws':List W} {vs vs':List V},aJ K H ws vs->aJ K H ws' vs'->aJ K H (ws++ws') (vs++vs')
 | _,_,_,_,.nil,s=>s
 | _,_,_,_,.cons r t,s=>.cons r (aJ.append t s)
theorem aJ.data {K:PySem.W.Frag}{H:Hp}:∀ {ds:List PyData} {vs:List V},aJ K H (ds.map W.d) vs->bj K H ds vs
 | [],_,h=>by cases h; simp [bj]
 | d :: ds,_,h=>by
  cases h with
  | cons r t=>simp only [bj]; exact ⟨_,_,rfl,r,aJ.data t⟩
theorem bj.ws {K:PySem.W.Frag}{H:Hp}:∀ {ds:List PyData} {vs:List V},bj K H ds vs->aJ K H (ds.map W.d) vs
 | [],vs,h=>by simp only [bj] at h; subst h; exact .nil
 | d :: ds,vs,h=>by
  simp only [bj] at h
  obtain ⟨v,r,e,h1,h2⟩:=h
  subst e
  exact .cons h1 (bj.ws h2)
def abc (K:PySem.W.Frag)(H:Hp)(a:Addr):MO->Prop
 | .lst ws=>∃ vs,H a=some (.lst vs)/\aJ K H ws vs
 | .dic kvs=>∃ l,H a=some (.dK l)/\Paired (λ (p:Key×W) (q:Key×V)=>p.1=q.1/\az K H p.2 q.2) kvs l
 | .fdic kvs=>∃ o l,H a=some (.frz o (.frz o (.dK l)))/\Paired (λ (p:Key×W) (q:Key×V)=>p.1=q.1/\az K H p.2 q.2) kvs l
 | .dct kvs=>∃ l,H a=some (.dT l)/\Paired (λ (p:List Key×W) (q:List Key×V)=>p.1=q.1/\az K H p.2 q.2) kvs l
 | .ins C fs=>∃ dx l,H a=some (.ins C dx l)/\Paired (λ (p:Str×W) (q:Str×V)=>p.1=q.1/\az K H p.2 q.2) fs l
 | .tup ws=>∃ vs,H a=some (.tup vs)/\aJ K H ws vs
 | .flst ws=>∃ o vs,H a=some (.frz o (.frz o (.lst vs)))/\aJ K H ws vs
 | .exc C fs=>∃ φ dct,H a=some (.ext φ)/\(∀ h,φ h->∃ vs,h.get? a=some { cls:=.ref C,dict:=dct,data:=.fields vs }) /\
   ((dct=none/\fs=[])\/∃ dx o l,dct=some dx/\H dx=some (.frz o (.xd l))/\Paired (λ (p:Str×W) (q:Str×V)=>p.1=q.1/\az K H p.2 q.2) fs l)
 | .code q pos=>∃ ps,H a=some (.tbl ps)/\TriplesOk ps.toList/\(codeAmong pos ps.toList=none\/∃ c o vs t,codeAmong pos ps.toList=some (.ref c)/\H c=some (.frz o (.own 0))/\o.data=.fields vs/\vs[1]? = some (.str q t))
def cm (K:PySem.W.Frag)(H:Hp)(M:MH):Prop:=∀ a o,M a=some o->abc K H a o
theorem abc.is {K:PySem.W.Frag}{H:Hp}{a:Addr}{o:MO}(h:abc K H a o):∃ u,H a=some u:=by
 cases o with
 | lst ws=>obtain ⟨vs,e,_⟩:=h; exact ⟨_,e⟩
 | dic kvs=>obtain ⟨l,e,_⟩:=h; exact ⟨_,e⟩
 | dct kvs=>obtain ⟨l,e,_⟩:=h; exact ⟨_,e⟩
 | fdic kvs=>obtain ⟨o,l,e,_⟩:=h; exact ⟨_,e⟩
 | ins C fs=>obtain ⟨dx,l,e,_⟩:=h; exact ⟨_,e⟩
 | tup ws=>obtain ⟨vs,e,_⟩:=h; exact ⟨_,e⟩
 | flst ws=>obtain ⟨o,vs,e,_⟩:=h; exact ⟨_,e⟩
 | exc C fs=>obtain ⟨φ,dct,e,_⟩:=h; exact ⟨_,e⟩
 | code q pos=>obtain ⟨ps,e,_⟩:=h; exact ⟨_,e⟩
theorem cm.free {K:PySem.W.Frag}{H:Hp}{M:MH}(h:cm K H M){p:Addr}(e:H p=none):M p=none:=by
 cases q:M p with
 | none=>rfl
 | some o =>
  obtain ⟨u,z⟩:=(h p o q).is
  rw [e] at z
  cases z
theorem abc.keep {K:PySem.W.Frag}{H H':Hp}{a:Addr}{o:MO}(k:Kp H H')(s:∀ u,H a=some u->H' a=some u)(h:abc K H a o):abc K H' a o:=by
 cases o with
 | lst ws=>obtain ⟨vs,e,r⟩:=h; exact ⟨vs,s _ e,r.keep k⟩
 | dic kvs=>obtain ⟨l,e,r⟩:=h; exact ⟨l,s _ e,Paired.je r λ p q z=>⟨z.1,z.2.keep k⟩⟩
 | dct kvs=>obtain ⟨l,e,r⟩:=h; exact ⟨l,s _ e,Paired.je r λ p q z=>⟨z.1,z.2.keep k⟩⟩
 | fdic kvs=>obtain ⟨o,l,e,r⟩:=h; exact ⟨o,l,s _ e,Paired.je r λ p q z=>⟨z.1,z.2.keep k⟩⟩
 | ins C fs=>obtain ⟨dx,l,e,r⟩:=h; exact ⟨dx,l,s _ e,Paired.je r λ p q z=>⟨z.1,z.2.keep k⟩⟩
 | tup ws=>obtain ⟨vs,e,r⟩:=h; exact ⟨vs,s _ e,r.keep k⟩
 | flst ws=>obtain ⟨o,vs,e,r⟩:=h; exact ⟨o,vs,s _ e,r.keep k⟩
 | exc C fs =>
  obtain ⟨φ,dct,e,p,r⟩:=h
  refine ⟨φ,dct,s _ e,p,?_⟩
  rcases r with r | ⟨dx,o,l,e1,e2,r⟩
  ·exact .inl r
  ·exact .inr ⟨dx,o,l,e1,k.frz _ _ _ e2,Paired.je r λ p q z=>⟨z.1,z.2.keep k⟩⟩
 | code q pos =>
  obtain ⟨ps,e,ht,hc⟩:=h
  refine ⟨ps,s _ e,ht,?_⟩
  rcases hc with hc | ⟨c,o,vs,t,e1,e2,e3⟩
  ·exact .inl hc
  ·exact .inr ⟨c,o,vs,t,e1,k.frz _ _ _ e2,e3⟩
theorem cm.new {K:PySem.W.Frag}{H:Hp}{M:MH}{p:Addr}{o:HO}(h:cm K H M)(e:H p=none):cm K (upd H p o) M:=λ a mo q =>
 (h a mo q).keep (Kp.new e) λ u z=>by rw [ao (aL z e)]; exact z
theorem cm.put {K:PySem.W.Frag}{H:Hp}{M:MH}{p:Addr}{o:HO}{mo:MO}(h:cm K H M)(k:Kp H (upd H p o))(r:abc K (upd H p o) p mo):cm K (upd H p o) (aK M p mo):=λ a mo' q=>by
 by_cases e:a=p
 ·subst e
  rw [aa] at q
  cases q
  exact r
 ·rw [ah e] at q
  exact (h a mo' q).keep k λ u z=>by rw [ao e]; exact z
structure Abs (K:PySem.W.Frag)(H:Hp)(σ:St)(τ:DS)(M:MH):Prop where
 len:σ.length=τ.length
 val:∀ (i:Nat) w,τ[i]? = some (some w)->∃ v,σ[i]? = some (some v)/\az K H w v
 mem:cm K H M
theorem Abs.go {K:PySem.W.Frag}{H H':Hp}{σ:St}{τ:DS}{M M':MH}(h:Abs K H σ τ M)(k:Kp H H')(m:cm K H' M'):Abs K H' σ τ M' :=
 ⟨h.len,λ i w e=>let ⟨v,q,r⟩:=h.val i w e; ⟨v,q,r.keep k⟩,m⟩
theorem Abs.set {K:PySem.W.Frag}{H:Hp}{σ:St}{τ:DS}{M:MH}{w:W}{v:V}(h:Abs K H σ τ M)(i:Nat)(r:az K H w v):Abs K H (σ.set i (some v)) (τ.set i (some w)) M:=by
 refine ⟨by rw [List.length_set,List.length_set]; exact h.len,λ j w' e=>?_,h.mem⟩
 by_cases hj:i=j
 ·subst hj
  have hl:i < τ.length:=by
   have:=(List.getElem?_eq_some_iff.mp e).1
   rwa [List.length_set] at this
  rw [List.getElem?_set_self hl] at e
  cases e
  exact ⟨v,List.getElem?_set_self (by rw [h.len]; exact hl),r⟩
 ·rw [List.getElem?_set_ne hj] at e
  obtain ⟨v',q,r'⟩:=h.val j w' e
  exact ⟨v',by rw [List.getElem?_set_ne hj]; exact q,r'⟩
abbrev QD:=W->MH->Prop
abbrev TD:=DS->MH->QD->Prop
abbrev TTd:=DS->MH->(Bool->MH->Prop)->Prop
abbrev TAd:=DS->MH->(List W->MH->Prop)->Prop
structure Ed where
 nx:DS->MH->Prop
 rt:QD
 bk:DS->MH->Prop:=λ _ _=>False
 ct:DS->MH->Prop:=λ _ _=>False
abbrev TSd:=Ed->DS->MH->Prop
def up (K:PySem.W.Frag)(t:TD):TE:=λ σ H Q=>∃ τ M Qd,Abs K H σ τ M/\t τ M Qd/\∀ v H' w M',Kp H H'->az K H' w v->cm K H' M'->Qd w M'->Q v H'
def upT (K:PySem.W.Frag)(t:TTd):TT:=λ σ H Q=>∃ τ M Qd,Abs K H σ τ M/\t τ M Qd/\∀ b H' M',Kp H H'->cm K H' M'->Qd b M'->Q b H'
def upA (K:PySem.W.Frag)(t:TAd):TA:=λ σ H Q=>∃ τ M Qd,Abs K H σ τ M/\t τ M Qd/\∀ vs H' ws M',Kp H H'->aJ K H' ws vs->cm K H' M'->Qd ws M'->Q vs H'
def upS (K:PySem.W.Frag)(t:TSd):TS:=λ D σ H=>∃ τ M Dd,Abs K H σ τ M/\t Dd τ M /\
 (∀ σ' H' τ' M',Kp H H'->Abs K H' σ' τ' M'->Dd.nx τ' M'->D.nx σ' H')/\(∀ v H' w M',Kp H H'->az K H' w v->cm K H' M'->Dd.rt w M'->D.rt v H') /\
 (∀ σ' H' τ' M',Kp H H'->Abs K H' σ' τ' M'->Dd.bk τ' M'->D.bk σ' H')/\(∀ σ' H' τ' M',Kp H H'->Abs K H' σ' τ' M'->Dd.ct τ' M'->D.ct σ' H')
section
variable {X:Cx}
abbrev PD (X:Cx)(e:Expr)(t:TD):Prop:=PE X e (up X.K t)
abbrev PTd (X:Cx)(e:Expr)(t:TTd):Prop:=PT X e (upT X.K t)
abbrev PAd (X:Cx)(es:List Expr)(t:TAd):Prop:=PA X es (upA X.K t)
abbrev PSd (X:Cx)(st:Stmt)(t:TSd):Prop:=PS X st (upS X.K t)
abbrev kG (X:Cx)(st:List Stmt)(t:TSd):Prop:=PSs X st (upS X.K t)
theorem eO {e:Expr}{t t':TE}(h:PE X e t)(k:∀ σ H Q,t' σ H Q->t σ H Q):PE X e t':=λ pins s σ H Q I q=>h pins s σ H Q I (k σ H Q q)
theorem abL {e:Expr}{t t':TT}(h:PT X e t)(k:∀ σ H Q,t' σ H Q->t σ H Q):PT X e t':=λ pins s σ H Q I q=>h pins s σ H Q I (k σ H Q q)
theorem agV {es:List Expr}{t t':TA}(h:PA X es t)(k:∀ σ H Q,t' σ H Q->t σ H Q):PA X es t':=λ pos pins s σ H Q I q=>h pos pins s σ H Q I (k σ H Q q)
theorem tG {st:Stmt}{t t':TS}(h:PS X st t)(k:∀ D σ H,t' D σ H->t D σ H):PS X st t':=λ pins s σ H D I q=>h pins s σ H D I (k D σ H q)
theorem adN {st:List Stmt}{t t':TS}(h:PSs X st t)(k:∀ D σ H,t' D σ H->t D σ H):PSs X st t':=λ pins s σ H D I q=>h pins s σ H D I (k D σ H q)
end
end D
namespace D
open PySem PySem.Spec PyProof.Rows L2
section
variable {X:Cx}{pos:Pos}{a b c e:Expr}{ta tb tc te:TD}{K:PySem.W.Frag}
abbrev Kont (K:PySem.W.Frag)(H:Hp)(Qd:QD)(Q:VK):Prop:=∀ v H' w M',Kp H H'->az K H' w v->cm K H' M'->Qd w M'->Q v H'
theorem kgo {H H1:Hp}{Qd:QD}{Q:VK}(k:Kont K H Qd Q)(kp:Kp H H1):Kont K H1 Qd Q:=λ v H' w M' k2 r m q=>k v H' w M' (kp.trans k2) r m q
inductive agT (i:Nat) (τ:DS) (M:MH) (Q:QD):Prop
 | mk (w:W) (z:τ[i]? = some (some w)) (q:Q w M):agT i τ M Q
def ar (i:Nat)(τ:DS)(M:MH)(Q:QD):Prop:=agT i τ M Q
theorem adq {i:Nat}(h:PE X e (ag0 i)):PD X e (ar i):=eO h λ σ H Q hq37=>by
 obtain ⟨τ,M,Qd,A,⟨w,e,q⟩,k⟩:=hq37
 obtain ⟨v,e',r⟩:=A.val i w e
 exact ⟨v,e',k v H w M (Kp.refl H) r A.mem q⟩
theorem dv (i:Nat){x:Str}{pos:Pos}(hN:X.N[i]? = some x:=by rfl)(hv:Vis X.env.scope x:=by first | exact Or.inl rfl | exact Or.inr (Or.inl rfl) | exact Or.inr (Or.inr rfl))(hd:(x == ("__debug__" : Str))=false:=by decide)
  (hcd:(x == ("__classdict__" : Str))=false:=by decide):PD X (.Name x pos) (ar i):=adq (xX hN hv hd hcd)
def dC (w:W)(_:DS)(M:MH)(Q:QD):Prop:=Q w M
theorem acS {v:V}{w:W}(h:PE X e (tC v))(r:∀ H,az X.K H w v):PD X e (dC w):=eO h λ σ H Q ⟨τ,M,Qd,A,q,k⟩=>k v H w M (Kp.refl H) (r H) A.mem q
theorem ak {i j pos}:PD X (.Constant (.int i) j pos) (dC (.d (.int i))):=acS adE λ H=>by simp [az,ay]
theorem jv {b j pos}:PD X (.Constant (.bool b) j pos) (dC (.d (.bool b))):=acS afx λ H=>by simp [az,ay]
theorem fJ {j pos}:PD X (.Constant .none j pos) (dC (.d .none)):=acS aeD λ H=>by simp [az,ay]
theorem aR {x j pos}:PD X (.Constant (.str x) j pos) (dC (.d (.str x))):=acS acZ λ H=>by simp [az,ay]
theorem fY {x:Str}{i:Int}{t:Tok}{pos:Pos}(hg:Gl X x)(hm:X.mg x=some (.int i t))(hd:(x == ("__debug__" : Str))=false:=by decide):PD X (.Name x pos) (dC (.d (.int i))):=acS (rF (v:=.int i) hg hm ⟨t,rfl⟩ hd) λ H=>by simp [az,ay]
theorem fk {x:Str}{n:String}{pos:Pos}(hg:Gl X x)(hm:X.mg x=none)(hv:bootBuiltins x=some (.type n))(hn:x ≠ "__name__" := by decide)(hd:(x == ("__debug__" : Str))=false:=by decide):PD X (.Name x pos) (dC (.t n)) :=
 acS (yj (v:=.ty n) hg hm hv rfl hn hd) λ H=>by simp [az]
def OpD (K:PySem.W.Frag)(r:R2)(rd:W->W->MH->QD->Prop):Prop:=∀ x y H w w' M Qd Q,az K H w x->az K H w' y->cm K H M->rd w w' M Qd->Kont K H Qd Q->r x y H Q
def dOp (rd:W->W->MH->QD->Prop)(ta tb:TD)(τ:DS)(M:MH)(Q:QD):Prop:=ta τ M λ w M1=>tb τ M1 λ w' M2=>rd w w' M2 Q
theorem sN {r:R2}{rd:W->W->MH->QD->Prop}(hd:OpD K r rd){σ:St}{H:Hp}{Q:VK}(h:up K (dOp rd ta tb) σ H Q):tOp r (up K ta) (up K tb) σ H Q:=by
 obtain ⟨τ,M,Qd,A,h,k⟩:=h
 refine ⟨τ,M,_,A,h,λ x H1 w M1 kp r1 m1 q1=>⟨τ,M1,_,A.go kp m1,q1,λ y H2 w' M2 kp2 r2 m2 q2=>?_⟩⟩
 exact hd x y H2 w w' M2 Qd Q (r1.keep kp2) r2 m2 q2 (kgo k (kp.trans kp2))
theorem bB {op:Operator}{r:R2}{rd:W->W->MH->QD->Prop}(ho:OpR X (binaryOp op) r)(hd:OpD X.K r rd)(ha:PD X a ta)(hb:PD X b tb):PD X (.BinOp a op b pos) (dOp rd ta tb):=eO (aeU ho ha hb) λ σ H Q h=>sN hd h
theorem iX {op:CmpOp}{r:R2}{rd:W->W->MH->QD->Prop}(ho:OpR X (compareOp op) r)(hd:OpD X.K r rd)(ha:PD X a ta)(hb:PD X b tb)(hm:behindInMarks op b=false:=by first | exact ia _ (by decide) (by decide) | rfl) :
  PD X (.Compare a [op] [b] pos) (dOp rd ta tb):=eO (acu ho ha hb hm) λ σ H Q h=>sN hd h
theorem bM {r:R2}{rd:W->W->MH->QD->Prop}(hr:IxR X r)(hd:OpD X.K r rd)(ha:PD X a ta)(hb:PD X b tb)(hs:rf b:=by intro _ _; rfl):PD X (.Subscript a b pos) (dOp rd ta tb):=eO (agm hr ha hb hs) λ σ H Q h=>sN hd h
def bf (t:TD)(τ:DS)(M:MH)(Q:Bool->MH->Prop):Prop:=t τ M λ w M1=>∃ k,w=.d (.bool k)/\Q k M1
theorem ie {t':TE}(hi:∀ σ H Q,up K ta σ H Q->t' σ H Q){σ:St}{H:Hp}{Q:Bool->Hp->Prop}(h:upT K (bf ta) σ H Q):aa5 t' σ H Q:=by
 obtain ⟨τ,M,Qd,A,h,k⟩:=h
 refine hi σ H _ ⟨τ,M,_,A,h,λ v H' w M' kp r m hq38=>?_⟩
 obtain ⟨b,e,q⟩:=hq38
 subst e
 simp only [az,ay] at r
 exact ⟨b,r,k b H' M' kp m q⟩
theorem bo {op:CmpOp}{r:R2}{rd:W->W->MH->QD->Prop}(ho:OpR X (compareOp op) r)(hd:OpD X.K r rd)(ha:PD X a ta)(hb:PD X b tb)(hm:behindInMarks op b=false:=by first | exact ia _ (by decide) (by decide) | rfl) :
  PTd X (.Compare a [op] [b] pos) (bf (dOp rd ta tb)):=abL (ach ho ha hb hm) λ σ H Q h=>ie (λ _ _ _ q=>sN hd q) h
theorem cR (h:PD X e te)(he:∀ whole,isTrue e X.env whole=(do let v <- whole; standAt e.pos; holding [v] (truthy v)):=by intro _; rfl):PTd X e (bf te):=abL (ad2 h he) λ σ H Q q=>ie (λ _ _ _ z=>z) q
def iV (r r':W->W->MH->QD->Prop)(ta tb tc:TD)(τ:DS)(M:MH)(Q:QD):Prop:=ta τ M λ x M1=>tb τ M1 λ y M2=>r x y M2 λ z M3=>∃ k,z=.d (.bool k)/\(if k=true then tc τ M3 λ w' M4=>r' y w' M4 Q else Q (.d (.bool false)) M3)
theorem oW {r r':R2}{rd rd':W->W->MH->QD->Prop}(hd:OpD K r rd)(hd':OpD K r' rd'){σ:St}{H:Hp}{Q:VK}(h:up K (iV rd rd' ta tb tc) σ H Q):vI r r' (up K ta) (up K tb) (up K tc) σ H Q:=by
 obtain ⟨τ,M,Qd,A,h,k⟩:=h
 refine ⟨τ,M,_,A,h,λ x H1 w M1 kp r1 m1 q1=>⟨τ,M1,_,A.go kp m1,q1,λ y H2 w' M2 kp2 r2 m2 q2=>?_⟩⟩
 have kq:=kp.trans kp2
 refine hd x y H2 w w' M2 _ _ (r1.keep kp2) r2 m2 q2 λ v H3 w'' M3 kp3 r3 m3 hq39=>?_
 obtain ⟨b,e,q3⟩:=hq39
 subst e
 simp only [az,ay] at r3
 refine ⟨b,r3,?_⟩
 have kr:=kq.trans kp3
 cases b with
 | false =>
  rw [if_neg Bool.false_ne_true] at q3 ⊢
  exact k _ H3 _ M3 kr (by simp [az,ay]) m3 q3
 | true =>
  rw [if_pos rfl] at q3 ⊢
  exact ⟨τ,M3,_,A.go kr m3,q3,λ u H4 w4 M4 kp4 r4 m4 q4=>hd' y u H4 w' w4 M4 Qd Q (r2.keep (kp3.trans kp4)) r4 m4 q4 (kgo k (kr.trans kp4))⟩
theorem jh {op op':CmpOp}{r r':R2}{rd rd':W->W->MH->QD->Prop}(ho:OpR X (compareOp op) r)(hd:OpD X.K r rd)(ho':OpR X (compareOp op') r')(hd':OpD X.K r' rd')(ha:PD X a ta)(hb:PD X b tb)(hc:PD X c tc)
  (hm:lastMarks [op,op'] [b,c]=false:=by with_unfolding_all rfl):PD X (.Compare a [op,op'] [b,c] pos) (iV rd rd' ta tb tc):=eO (yG ho ho' ha hb hc hm) λ σ H Q h=>oW hd hd' h
theorem kB {op op':CmpOp}{r r':R2}{rd rd':W->W->MH->QD->Prop}(ho:OpR X (compareOp op) r)(hd:OpD X.K r rd)(ho':OpR X (compareOp op') r')(hd':OpD X.K r' rd')(ha:PD X a ta)(hb:PD X b tb)(hc:PD X c tc)
  (hm:lastMarks [op,op'] [b,c]=false:=by with_unfolding_all rfl):PTd X (.Compare a [op,op'] [b,c] pos) (bf (iV rd rd' ta tb tc)):=abL (zN ho ho' ha hb hc hm) λ σ H Q h=>ie (λ _ _ _ q=>oW hd hd' q) h
def UnD (K:PySem.W.Frag)(r:V->Hp->VK->Prop)(rd:W->MH->QD->Prop):Prop:=∀ x H w M Qd Q,az K H w x->cm K H M->rd w M Qd->Kont K H Qd Q->r x H Q
def dUn (rd:W->MH->QD->Prop)(ta:TD)(τ:DS)(M:MH)(Q:QD):Prop:=ta τ M λ w M1=>rd w M1 Q
theorem zl {op:UnaryOp}{r:V->Hp->VK->Prop}{rd:W->MH->QD->Prop}(ho:UnR X (unaryOp op) r)(hd:UnD X.K r rd)(ha:PD X a ta):PD X (.UnaryOp op a pos) (dUn rd ta):=eO (afP ho ha) λ σ H Q h=>by
 obtain ⟨τ,M,Qd,A,h,k⟩:=h
 exact ⟨τ,M,_,A,h,λ x H1 w M1 kp r1 m1 q1=>hd x H1 w M1 Qd Q r1 m1 q1 (kgo k kp)⟩
variable {tA tB:TTd}{rest:List Expr}
def afb (t u:TTd)(τ:DS)(M:MH)(Q:Bool->MH->Prop):Prop:=t τ M λ k M1=>if k=true then u τ M1 Q else Q false M1
def dOr (t u:TTd)(τ:DS)(M:MH)(Q:Bool->MH->Prop):Prop:=t τ M λ k M1=>if k=true then Q true M1 else u τ M1 Q
def uT (t:TTd)(τ:DS)(M:MH)(Q:Bool->MH->Prop):Prop:=t τ M λ k M1=>Q (!k) M1
abbrev PWd (X:Cx)(e:Expr)(t:TTd):Prop:=PW X e (upT X.K t)
theorem pw_w {e:Expr}{t t':TT}(h:PW X e t)(k:∀ σ H Q,t' σ H Q->t σ H Q):PW X e t':=λ w pins s σ H Q I q=>h w pins s σ H Q I (k σ H Q q)
theorem nA (ha:PTd X a tA):PWd X (.BoolOp .And [a] pos) tA:=pw_and1 ha
theorem gC (ha:PTd X a tA):PWd X (.BoolOp .Or [a] pos) tA:=pw_or1 ha
theorem mL (ha:PTd X a tA)(hb:PWd X (.BoolOp .And (b :: rest) pos) tB):PWd X (.BoolOp .And (a :: b :: rest) pos) (afb tA tB):=pw_w (pw_and ha hb) λ σ H Q h=>by
 obtain ⟨τ,M,Qd,A,h,k⟩:=h
 refine ⟨τ,M,_,A,h,λ b H1 M1 kp m1 q1=>?_⟩
 cases b with
 | true=>rw [if_pos rfl] at q1 ⊢; exact ⟨τ,M1,Qd,A.go kp m1,q1,λ b H2 M2 kp2 m2 q2=>k b H2 M2 (kp.trans kp2) m2 q2⟩
 | false=>rw [if_neg Bool.false_ne_true] at q1 ⊢; exact k _ H1 M1 kp m1 q1
theorem i4 (ha:PTd X a tA)(hb:PWd X (.BoolOp .Or (b :: rest) pos) tB):PWd X (.BoolOp .Or (a :: b :: rest) pos) (dOr tA tB):=pw_w (pw_or ha hb) λ σ H Q h=>by
 obtain ⟨τ,M,Qd,A,h,k⟩:=h
 refine ⟨τ,M,_,A,h,λ b H1 M1 kp m1 q1=>?_⟩
 cases b with
 | false=>rw [if_neg Bool.false_ne_true] at q1 ⊢; exact ⟨τ,M1,Qd,A.go kp m1,q1,λ b H2 M2 kp2 m2 q2=>k b H2 M2 (kp.trans kp2) m2 q2⟩
 | true=>rw [if_pos rfl] at q1 ⊢; exact k _ H1 M1 kp m1 q1
theorem pW (h:PWd X e tA):PTd X e tA:=h.pt
theorem cO (ha:PTd X a tA):PTd X (.UnaryOp .Not a pos) (uT tA):=abL (ae1 ha) λ σ H Q h=>by
 obtain ⟨τ,M,Qd,A,h,k⟩:=h
 exact ⟨τ,M,_,A,h,λ b H1 M1 kp m1 q1=>k (!b) H1 M1 kp m1 q1⟩
def om (ta tb:TD)(τ:DS)(M:MH)(Q:QD):Prop:=ta τ M λ x M1=>∃ k,x=.d (.bool k)/\if k=true then tb τ M1 Q else Q (.d (.bool false)) M1
def yE (ta:TD)(τ:DS)(M:MH)(Q:QD):Prop:=ta τ M λ x M1=>∃ k,x=.d (.bool k)/\Q (.d (.bool (!k))) M1
theorem lK {op}(h:PD X a ta):PD X (.BoolOp op [a] pos) ta:=ad7 h
theorem iL (ha:PD X a ta)(hb:PD X (.BoolOp .And (b :: rest) pos) tb):PD X (.BoolOp .And (a :: b :: rest) pos) (om ta tb):=eO (aeP ha hb) λ σ H Q h=>by
 obtain ⟨τ,M,Qd,A,h,k⟩:=h
 refine ⟨τ,M,_,A,h,λ x H1 w M1 kp r1 m1 hq40=>?_⟩
 obtain ⟨b,e,q1⟩:=hq40
 subst e
 simp only [az,ay] at r1
 refine ⟨b,r1,?_⟩
 cases b with
 | true=>rw [if_pos rfl] at q1 ⊢; exact ⟨τ,M1,Qd,A.go kp m1,q1,kgo k kp⟩
 | false=>rw [if_neg Bool.false_ne_true] at q1 ⊢; exact k _ H1 _ M1 kp (by simp [az,ay]) m1 q1
theorem tP (ha:PD X a ta):PD X (.UnaryOp .Not a pos) (yE ta):=eO (ad4 ha) λ σ H Q h=>by
 obtain ⟨τ,M,Qd,A,h,k⟩:=h
 refine ⟨τ,M,_,A,h,λ x H1 w M1 kp r1 m1 hq41=>?_⟩
 obtain ⟨b,e,q1⟩:=hq41
 subst e
 simp only [az,ay] at r1
 exact ⟨b,r1,k _ H1 _ M1 kp (by simp [az,ay]) m1 q1⟩
variable {es:List Expr}{t:TAd}
def aP (_:DS)(M:MH)(Q:List W->MH->Prop):Prop:=Q [] M
def aj (ta:TD)(tr:TAd)(τ:DS)(M:MH)(Q:List W->MH->Prop):Prop:=ta τ M λ w M1=>tr τ M1 λ ws M2=>Q (w :: ws) M2
theorem ag:PAd X [] aP:=agV lE λ σ H Q ⟨τ,M,Qd,A,h,k⟩=>k [] H [] M (Kp.refl H) .nil A.mem h
theorem sA (ha:PD X e te)(hr:PAd X es t)(hs:starEach (e :: es) X.env=(false,eval e X.env) :: starEach es X.env:=by rfl):PAd X (e :: es) (aj te t):=agV (gF ha hr hs) λ σ H Q h=>by
 obtain ⟨τ,M,Qd,A,h,k⟩:=h
 exact ⟨τ,M,_,A,h,λ x H1 w M1 kp r1 m1 q1=>⟨τ,M1,_,A.go kp m1,q1,λ xs H2 ws M2 kp2 r2 m2 q2=>k _ H2 _ M2 (kp.trans kp2) (.cons (r1.keep kp2) r2) m2 q2⟩⟩
def l6:List W->Option (List PyData)
 | []=>some []
 | .d x :: r=>(l6 r).map (x :: ·)
 | _ :: _=>none
theorem nF:∀ {ws:List W} {ds:List PyData},l6 ws=some ds->ws=ds.map W.d
 | [],ds,h=>by simp only [l6] at h; cases h; rfl
 | .d x :: r,ds,h=>by
  simp only [l6] at h
  cases q:l6 r with
  | none=>rw [q] at h; cases h
  | some l=>rw [q] at h; cases h; rw [nF q]; rfl
 | .m _ :: _,ds,h=>by simp [l6] at h
 | .t _ :: _,ds,h=>by simp [l6] at h
def zM (t:TAd)(τ:DS)(M:MH)(Q:QD):Prop:=t τ M λ ws M1=>∃ ds,l6 ws=some ds/\ds.length<=sizeLine/\Q (.d (.list ds)) M1
theorem acv {H:Hp}{p:Addr}{o:Obj}{vs:List V}{ds:List PyData}(hp:H p=none)(r:bj K H ds vs):ay K (upd H p (.frz o (.lst vs))) (.list ds) (.ref p):=by
 simp only [ay]
 exact ⟨p,vs,rfl,.inl ⟨o,au⟩,r.keep (Kp.new hp)⟩
theorem nY {H:Hp}{vs:List V}{ds:List PyData}{M:MH}{Qd:QD}{Q:VK}{p:Addr}(hp:H p=none)(r:bj K H ds vs)(m:cm K H M)(q:Qd (.d (.list ds)) M)(k:Kont K H Qd Q) :
  ∃ p' u,V.ref p=.ref p'/\(upd H p (.lst vs)) p'=some u/\Fz u/\∀ o,Q (.ref p) (upd (upd H p (.lst vs)) p' (.frz o u)):=by
 refine ⟨p,_,rfl,au,trivial,λ o=>?_⟩
 rw [aa7]
 exact k _ _ (.d (.list ds)) M (Kp.new hp) (acv hp r) (m.new hp) q
theorem gK (h:PAd X es t):PD X (.List es pos) (zM t):=eO (sQ (aal h)) λ σ H Q h=>by
 obtain ⟨τ,M,Qd,A,h,k⟩:=h
 refine ⟨τ,M,_,A,h,λ vs H1 ws M1 kp r1 m1 hq42=>?_⟩
 obtain ⟨ds,e,hz,q1⟩:=hq42
 have e':=nF e
 subst e'
 have rA:=r1.data
 exact ⟨by rw [rA.length]; exact hz,λ p hp=>nY hp rA m1 q1 (kgo k kp)⟩
def kZ (t:TAd)(τ:DS)(M:MH)(Q:QD):Prop:=t τ M λ ws M1=>ws.length<=sizeLine/\∀ p,M1 p=none->Q (.m p) (aK M1 p (.lst ws))
theorem d6 (h:PAd X es t):PD X (.List es pos) (kZ t):=eO (aal h) λ σ H Q h=>by
 obtain ⟨τ,M,Qd,A,h,k⟩:=h
 refine ⟨τ,M,_,A,h,λ vs H1 ws M1 kp r1 m1 ⟨hz,q1⟩=>⟨by rw [<- r1.length]; exact hz,λ p hp=>?_⟩⟩
 exact k _ _ (.m p) (aK M1 p (.lst ws)) (kp.trans (Kp.new hp)) rfl (m1.put (mo:=.lst ws) (Kp.new hp) ⟨vs,au,r1.keep (Kp.new hp)⟩) (q1 p (m1.free hp))
def uB (t:TAd)(τ:DS)(M:MH)(Q:QD):Prop:=t τ M λ ws M1=>∃ ds,l6 ws=some ds/\ds.length<=sizeLine/\Q (.d (.tuple ds)) M1
theorem er {x1}(h:PAd X es t):PD X (.Tuple es x1 pos) (uB t):=eO (zY h) λ σ H Q h=>by
 obtain ⟨τ,M,Qd,A,h,k⟩:=h
 refine ⟨τ,M,_,A,h,λ vs H1 ws M1 kp r1 m1 hq43=>?_⟩
 obtain ⟨ds,e,hz,q1⟩:=hq43
 have e':=nF e
 subst e'
 have rA:=r1.data
 refine ⟨by rw [rA.length]; exact hz,λ p hp=>k _ _ (.d (.tuple ds)) M1 (kp.trans (Kp.new hp)) ?_ (m1.new hp) q1⟩
 simp only [az,ay]
 exact ⟨p,vs,rfl,.inl (.inl au),rA.keep (Kp.new hp)⟩
variable {x:Str}{p:Pos}{id T:String}{r:List V->Hp->VK->Prop}{rd:List W->MH->QD->Prop}
def gf (K:PySem.W.Frag)(r:List V->Hp->VK->Prop)(rd:List W->MH->QD->Prop):Prop:=∀ vs H ws M Qd Q,aJ K H ws vs->cm K H M->rd ws M Qd->Kont K H Qd Q->r vs H Q
def dCB (rd:List W->MH->QD->Prop)(t:TAd)(τ:DS)(M:MH)(Q:QD):Prop:=t τ M λ ws M1=>rd ws M1 Q
theorem aaF (hd:gf K r rd){σ:St}{H:Hp}{Q:VK}(h:up K (dCB rd t) σ H Q):tCB r (upA K t) σ H Q:=by
 obtain ⟨τ,M,Qd,A,h,k⟩:=h
 exact ⟨τ,M,_,A,h,λ vs H1 ws M1 kp r1 m1 q1=>hd vs H1 ws M1 Qd Q r1 m1 q1 (kgo k kp)⟩
theorem zk (hc:dY X (.builtin id) r)(hd:gf X.K r rd)(hg:Gl X x)(hm:X.mg x=none)(hv:bootBuiltins x=some (.builtin id))(ha:PAd X (e :: es) t)(hn:x ≠ "__name__" := by decide)(hdb:(x == ("__debug__" : Str))=false:=by decide)
  (he:starEach (e :: es) X.env=(false,eval e X.env) :: starEach es X.env:=by rfl)(hpl:(backTo pos (starEach es X.env)).any (·.1)=false:=by rfl):PD X (.Call (.Name x p) (e :: es) [] pos) (dCB rd t) :=
 eO (jl hc hg hm hv ha hn hdb he hpl) λ σ H Q h=>aaF hd h
theorem vt (hc:dY X (.type T) r)(hd:gf X.K r rd)(hg:Gl X x)(hm:X.mg x=none)(hv:bootBuiltins x=some (.type T))(ha:PAd X (e :: es) t)(hn:x ≠ "__name__" := by decide)(hdb:(x == ("__debug__" : Str))=false:=by decide)
  (he:starEach (e :: es) X.env=(false,eval e X.env) :: starEach es X.env:=by rfl)(hpl:(backTo pos (starEach es X.env)).any (·.1)=false:=by rfl):PD X (.Call (.Name x p) (e :: es) [] pos) (dCB rd t) :=
 eO (wm hc hg hm hv ha hn hdb he hpl) λ σ H Q h=>aaF hd h
end
section
variable {X:Cx}{pos:Pos}{st:Stmt}{sts:List Stmt}{t u:TSd}{e:Expr}{te:TD}{K:PySem.W.Frag}
def cB (D:Ed)(τ:DS)(M:MH):Prop:=D.nx τ M
def bh (t u:TSd)(D:Ed)(τ:DS)(M:MH):Prop:=t { D with nx:=u D } τ M
theorem aH:kG X [] cB:=adN abr λ D σ H ⟨τ,M,Dd,A,h,k1,_⟩=>k1 σ H τ M (Kp.refl H) A h
theorem ae (h1:PSd X st t)(h2:kG X sts u):kG X (st :: sts) (bh t u):=adN (yL h1 h2) λ D σ H ⟨τ,M,Dd,A,h,k1,k2,k3,k4⟩ =>
 ⟨τ,M,{ Dd with nx:=u Dd },A,h,λ σ' H' τ' M' kp A' q=>⟨τ',M',Dd,A',q,λ σ2 H2 τ2 M2 kp2=>k1 σ2 H2 τ2 M2 (kp.trans kp2),λ v H2 w M2 kp2=>k2 v H2 w M2 (kp.trans kp2),λ σ2 H2 τ2 M2 kp2=>k3 σ2 H2 τ2 M2 (kp.trans kp2),λ σ2 H2 τ2 M2 kp2=>k4 σ2 H2 τ2 M2 (kp.trans kp2)⟩,k2,k3,k4⟩
theorem aq (h1:PSd X st t):kG X [st] t:=vR h1
def iC (te:TD)(D:Ed)(τ:DS)(M:MH):Prop:=te τ M λ _ M1=>D.nx τ M1
theorem cw (he:PD X e te)(hs:swapsWith e none pos.line X.env=pure false:=by rfl):PSd X (.Expr e pos) (iC te):=tG (abH he hs) λ D σ H ⟨τ,M,Dd,A,h,k1,_⟩ =>
 ⟨τ,M,_,A,h,λ v H1 w M1 kp r m q=>k1 σ H1 τ M1 kp (A.go kp m) q⟩
def dN (te:TD)(D:Ed)(τ:DS)(M:MH):Prop:=te τ M D.rt
theorem aD (he:PD X e te):PSd X (.Return (some e) pos) (dN te):=tG (ad9 he) λ D σ H ⟨τ,M,Dd,A,h,k1,k2,_⟩=>⟨τ,M,_,A,h,λ v H1 w M1 kp r m q=>k2 v H1 w M1 kp r m q⟩
def dIf (c:TTd)(t u:TSd)(D:Ed)(τ:DS)(M:MH):Prop:=c τ M λ b M1=>if b=true then t D τ M1 else u D τ M1
theorem bD {c:Expr}{a b:List Stmt}{tc:TTd}(hc:PTd X c tc)(ha:kG X a t)(hb:kG X b u):PSd X (.If c a b pos) (dIf tc t u):=tG (afL hc ha hb) λ D σ H hq44=>by
 obtain ⟨τ,M,Dd,A,h,k1,k2,k3,k4⟩:=hq44
 refine ⟨τ,M,_,A,h,λ b H1 M1 kp m q=>?_⟩
 have go:∀ {t':TSd},t' Dd τ M1->upS X.K t' D σ H1:=λ {t'} q=>⟨τ,M1,Dd,A.go kp m,q,λ σ2 H2 τ2 M2 kp2=>k1 σ2 H2 τ2 M2 (kp.trans kp2),λ v H2 w M2 kp2=>k2 v H2 w M2 (kp.trans kp2),λ σ2 H2 τ2 M2 kp2=>k3 σ2 H2 τ2 M2 (kp.trans kp2),λ σ2 H2 τ2 M2 kp2=>k4 σ2 H2 τ2 M2 (kp.trans kp2)⟩
 cases b with
 | true=>rw [if_pos rfl] at q; show (if true=true then upS X.K t D σ H1 else upS X.K u D σ H1); rw [if_pos rfl]; exact go q
 | false=>rw [if_neg Bool.false_ne_true] at q; show (if false=true then upS X.K t D σ H1 else upS X.K u D σ H1); rw [if_neg Bool.false_ne_true]; exact go q
abbrev TGd:=W->DS->MH->(DS->MH->Prop)->Prop
def upG (K:PySem.W.Frag)(g:TGd):TG:=λ v σ H Q=>∃ w τ M Qd,az K H w v/\Abs K H σ τ M/\g w τ M Qd/\∀ σ' H' τ' M',Kp H H'->Abs K H' σ' τ' M'->Qd τ' M'->Q σ' H'
abbrev PGd (X:Cx)(e:Expr)(g:TGd):Prop:=PG X e (upG X.K g)
theorem afA {e:Expr}{g g':TG}(h:PG X e g)(k:∀ v σ H Q,g' v σ H Q->g v σ H Q):PG X e g':=λ pins s σ H v u Q I r q=>h pins s σ H v u Q I r (k v σ H Q q)
def gN (i:Nat)(w:W)(τ:DS)(M:MH)(Q:DS->MH->Prop):Prop:=Q (τ.set i (some w)) M
theorem aB {i:Nat}{x:Str}(hN:X.N.Nodup)(hi:X.N[i]? = some x)(hx:Loc X.env.scope x)(hf:X.fn x=true\/X.env.scope.names.lookup x=some .local:=by first | exact .inl rfl | exact .inr rfl | assumption):PGd X (.Name x pos) (gN i) :=
 afA (xo hN hi hx hf) λ v σ H Q ⟨w,τ,M,Qd,r,A,h,k⟩=>k _ H _ M (Kp.refl H) (A.set i r) h
def cA (te:TD)(g:TGd)(D:Ed)(τ:DS)(M:MH):Prop:=te τ M λ w M1=>g w τ M1 D.nx
theorem aa4 {g:TGd}{D:Ends}{σ:St}{H:Hp}(h:upS K (cA te g) D σ H):aff (up K te) (upG K g) D σ H:=by
 obtain ⟨τ,M,Dd,A,h,k1,_⟩:=h
 exact ⟨τ,M,_,A,h,λ v H1 w M1 kp r m q=>⟨w,τ,M1,_,r,A.go kp m,q,λ σ2 H2 τ2 M2 kp2 A2 q2=>k1 σ2 H2 τ2 M2 (kp.trans kp2) A2 q2⟩⟩
theorem gv {tg:Expr}{g:TGd}(he:PD X e te)(hg:PGd X tg g)(hs:swapsWithSole [tg] e pos.line X.env=pure false:=by rfl)(hw:swappedStores [tg] e X.env=pure none:=by rfl)
  (h1:(assignEach [tg] X.env).map (·.2)=[assign tg X.env]:=by rfl):PSd X (.Assign [tg] e pos) (cA te g):=tG (adU he hg hs hw h1) λ D σ H h=>aa4 h
theorem aC {i:Nat}{x:Str}{pos':Pos}(hN:X.N.Nodup)(hi:X.N[i]? = some x)(hx:Loc X.env.scope x)(he:PD X e te)(hs:swapsWith e (some (.Name x pos')) pos.line X.env=pure false:=by rfl)(hf:X.fn x=true\/X.env.scope.names.lookup x=some .local:=by first | exact .inl rfl | exact .inr rfl | assumption) :
  PSd X (.Assign [.Name x pos'] e pos) (cA te (gN i)):=tG (adW hN hi hx he hs hf) λ D σ H ⟨τ,M,Dd,A,h,k1,_⟩ =>
 ⟨τ,M,_,A,h,λ v H1 w M1 kp r m q=>k1 _ H1 _ M1 kp ((A.go kp m).set i r) q⟩
end
abbrev SpD:=List W->MH->QD->Prop
def de (K:PySem.W.Frag)(sp:SpD):Sp:=λ vs H Q _=>∃ ws M Qd,aJ K H ws vs/\cm K H M/\sp ws M Qd/\Kont K H Qd Q
section
variable {X:Cx}{pos p:Pos}{k:Nat}{f:Addr}{fd:FuncData}{ps:List Str}{sp:SpD}{x:Str}{e:Expr}{es:List Expr}{t:TAd}
def bw (sp:SpD)(t:TAd)(τ:DS)(M:MH)(Q:QD):Prop:=t τ M λ ws M1=>sp ws M1 Q
theorem abq (F:bV X.prog X.w X.K X.mg X.base CX0 k f fd ps (de X.K sp))(hr:cG k X.A)(hg:Gl X x)(hm:X.mg x=some (.ref f))(hk:PySem.W.keepIn X.K (.ref f)=true)(hb:Binds X.K fd ps [])
  (ha:PAd X (e :: es) t)(hdb:(x == ("__debug__" : Str))=false:=by decide)(he:starEach (e :: es) X.env=(false,eval e X.env) :: starEach es X.env:=by rfl)(hpl:(backTo pos (starEach es X.env)).any (·.1)=false:=by rfl) :
  PD X (.Call (.Name x p) (e :: es) [] pos) (bw sp t):=eO (abg (E:=E0) (dvs:=[]) F hr hg hm hk hb .nil vO ha hdb he hpl) λ σ H Q h=>by
 obtain ⟨τ,M,Qd,A,h,k⟩:=h
 exact ⟨τ,M,_,A,h,λ vs H1 ws M1 kp r1 m1 q1=>⟨ws,M1,Qd,by rw [List.append_nil]; exact r1,m1,q1,kgo k kp⟩⟩
end
def aQ (N:List Str)(ws:List W):DS:=ws.map some++List.replicate (N.length - ws.length) none
section
variable {P:Program}{w:World}{K:PySem.W.Frag}{mg:Str->Option Value}{base:Heap}
theorem hU {H:Hp}{N:List Str}{ws:List W}{vs:List V}{M:MH}(r:aJ K H ws vs)(m:cm K H M):Abs K H (start N vs) (aQ N ws) M:=by
 have hl:=r.length
 refine ⟨?_,λ i w e=>?_,m⟩
 ·simp [L2.start,aQ,hl]
 ·unfold aQ at e
  by_cases hi:i < ws.length
  ·rw [List.getElem?_append_left (by simpa using hi),List.getElem?_map] at e
   cases q:ws[i]? with
   | none=>rw [q] at e; cases e
   | some w' =>
    rw [q] at e
    cases e
    obtain ⟨v,e1,r1⟩:=r.get q
    refine ⟨v,?_,r1⟩
    unfold L2.start
    rw [List.getElem?_append_left (by rw [List.length_map,<- hl]; exact hi),List.getElem?_map,e1]
    rfl
  ·rw [List.getElem?_append_right (by simpa using hi),List.getElem?_replicate] at e
   split at e <;> cases e
theorem bT {x qual:Str}{st:Stmt}{f:Addr}{fd:FuncData}{N ps:List Str}{k:Nat}{sp:SpD}{t:TSd}(F:Fun K x qual st f fd)(S:aG N ps (ai st))(len:∀ ws M Q,sp ws M Q->ws.length=ps.length)
  (hbody:∀ (cdv:Value) (A:Around) (outer:List Env) (s:Shared) (H:Hp) (E:XK),cG k (A.deeper (envOfC qual (ai st) s.heap.objs.size f cdv)) ->
   kG (uz CX0 P w K mg base N qual (ai st) f cdv A outer s H E).nox (aE st) t)
  (read:∀ ws M Q,sp ws M Q->t { nx:=λ _ M'=>Q (.d .none) M',rt:=Q } (aQ N ws) M):bV P w K mg base CX0 (k+1) f fd ps (de K sp):=by
 refine F.ok S (λ vs H Q E h=>?_) (λ cdv A outer s H vs Q E hr h=>?_)
 ·obtain ⟨ws,M,Qd,r,_,q,_⟩:=h
  rw [<- r.length]
  exact len _ _ _ q
 ·obtain ⟨ws,M,Qd,r,m,q,kk⟩:=h
  refine ⟨_,hbody cdv A outer s H E hr,aQ N ws,M,_,hU r m,read ws M Qd q,λ σ' H' τ' M' kp A' q'=>?_,λ v H' w' M' kp r' m' q'=>?_,λ σ' H' τ' M' kp A' q'=>q'.elim,λ σ' H' τ' M' kp A' q'=>q'.elim⟩
  ·exact kk _ H' _ M' kp (by simp [az,ay]) A'.mem q'
  ·exact kk v H' w' M' kp r' m' q'
end
end D
namespace L2
open PySem PySem.Spec PyProof.Rows
structure mj (k:Nat)(A:Around):Prop where
 gd:A.guards=some []
 dp:A.depth+3 * k+5 < recursionLimit
 un:A.units+16 * k+200 < cLine
theorem mj.units {k:Nat}{A:Around}(r:mj k A):A.units+64 < cLine:=by have:=r.un; omega
theorem cG.h {k:Nat}{A:Around}(r:cG k A):mj k A:=⟨r.gd,r.dp,r.un⟩
end L2
namespace D
open PySem PySem.Spec PyProof.Rows L2
section
variable {X:Cx}{pins:List (Addr×Obj)}{σ:St}{H:Hp}{s:Shared}
mutual
theorem fZ (I:Inv X pins σ H s):∀ (d:PyData) {x:V} {u:Value},ay X.K H d x->RelV x u->d.hasDict=false->∃ as,Reads s.heap u d as
 | .none,x,u,h,r,_=>by
  simp only [ay] at h; subst h
  cases (show u=Value.none from r)
  exact ⟨_,.none⟩
 | .bool b,x,u,h,r,_=>by
  simp only [ay] at h; subst h
  cases (show u=Value.bool b from r)
  exact ⟨_,.bool b⟩
 | .int i,x,u,h,r,_=>by
  simp only [ay] at h; subst h
  obtain ⟨t,e⟩:=(show ∃ t,u=Value.int i t from r)
  subst e
  exact ⟨_,.int i t⟩
 | .str z,x,u,h,r,_=>by
  simp only [ay] at h; subst h
  obtain ⟨t,e⟩:=(show ∃ t,u=Value.str z t from r)
  subst e
  exact ⟨_,.str z t⟩
 | .list ds,x,u,h,r,hd=>by
  simp only [ay] at h
  obtain ⟨a,vs,e,hs,ra⟩:=h
  subst e
  cases (show u=Value.ref a from r)
  obtain ⟨its,rv,⟨o,n,e1,e2,e3,e4⟩,hz⟩:=I.list hs.sq
  obtain ⟨as,q⟩:=j8 I ds ra rv (by simpa [PyData.hasDict] using hd)
  exact ⟨_,.list e1 e2 e4 (by simpa using q)⟩
 | .tuple ds,x,u,h,r,hd=>by
  simp only [ay] at h
  obtain ⟨a,vs,e,hs,ra⟩:=h
  subst e
  cases (show u=Value.ref a from r)
  obtain ⟨its,rv,⟨o,e1,e2,n,e4⟩,hz⟩:=I.tuple hs
  obtain ⟨as,q⟩:=j8 I ds ra rv (by simpa [PyData.hasDict] using hd)
  exact ⟨_,.tuple e1 e2 e4 (by simpa using q)⟩
 | .dict kvs,x,u,h,r,hd=>by simp [PyData.hasDict] at hd
theorem j8 (I:Inv X pins σ H s):∀ (ds:List PyData) {xs:List V} {us:List Value},bj X.K H ds xs->Vals xs us->PyData.hasDictAll ds=false->∃ as,ReadsAll s.heap us ds as
 | [],xs,us,h,r,_=>by
  simp only [bj] at h; subst h
  cases r
  exact ⟨_,.nil⟩
 | d :: ds,xs,us,h,r,hd=>by
  simp only [bj] at h
  obtain ⟨v,vr,e,h1,h2⟩:=h
  subst e
  simp only [PyData.hasDictAll,Bool.or_eq_false_iff] at hd
  cases r with
  | cons r1 r2 =>
   obtain ⟨as,q1⟩:=fZ I d h1 r1 hd.1
   obtain ⟨bs,q2⟩:=j8 I ds h2 r2 hd.2
   exact ⟨_,.cons q1 q2⟩
end
def kK (d:PyData):Bool:=SeqAt.shaped d && !d.hasDict
def dO:PyData->PyData->Bool
 | .str _,.str _=>true
 | d,d'=>kK d && kK d'
theorem fc {d d':PyData}(h:dO d d'=true):(∃ x y,d=.str x/\d'=.str y)\/(kK d=true/\kK d'=true):=by
 cases d with
 | str x =>
  cases d' with
  | str y=>exact .inl ⟨x,y,rfl,rfl⟩
  | _=>exact .inr (by simpa [dO] using h)
 | _=>exact .inr (by simpa [dO] using h)
theorem qS (x y:Str):decide (V.str x=V.str y)=PyData.eqv (.str x) (.str y):=by
 rw [PyData.eqv]
 by_cases e:x=y
 ·subst e; simp
 ·rw [decide_eq_false (λ z=>e (V.str.inj z))]
  exact (beq_eq_false_iff_ne.mpr e).symm
theorem aav {k:Nat}(hr:mj k X.A):OpR X (compareOp .Eq) (λ x y H Q=>∃ d d',ay X.K H d x/\ay X.K H d' y/\dO d d'=true/\Q (.bl (PyData.eqv d d')) H):=by
 intro pins s σ H x y v u Q I rx ry h
 obtain ⟨d,d',h1,h2,o,q⟩:=h
 rcases fc o with ⟨a,b,e1,e2⟩ | ⟨o1,o2⟩
 ·subst e1; subst e2
  simp only [ay] at h1 h2
  subst h1; subst h2
  exact afQ pins s σ H _ _ v u Q I rx ry ⟨rfl,by rw [qS]; exact q⟩
 simp only [kK,Bool.and_eq_true,Bool.not_eq_true'] at o1 o2
 obtain ⟨as,r1⟩:=fZ I d h1 rx o1.2
 obtain ⟨bs,r2⟩:=fZ I d' h2 ry o2.2
 exact eq_dataH r1 r2 o1.1 o2.1 hr.units ⟨.bl _,H,I,rfl,q⟩
theorem adZ {k:Nat}(hr:mj k X.A):OpR X (compareOp .NotEq) (λ x y H Q=>∃ d d',ay X.K H d x/\ay X.K H d' y/\dO d d'=true/\Q (.bl (!PyData.eqv d d')) H):=by
 intro pins s σ H x y v u Q I rx ry h
 obtain ⟨d,d',h1,h2,o,q⟩:=h
 rcases fc o with ⟨a,b,e1,e2⟩ | ⟨o1,o2⟩
 ·subst e1; subst e2
  simp only [ay] at h1 h2
  subst h1; subst h2
  exact ago pins s σ H _ _ v u Q I rx ry ⟨rfl,by rw [qS]; exact q⟩
 simp only [kK,Bool.and_eq_true,Bool.not_eq_true'] at o1 o2
 obtain ⟨as,r1⟩:=fZ I d h1 rx o1.2
 obtain ⟨bs,r2⟩:=fZ I d' h2 ry o2.2
 exact ne_dataH r1 r2 o1.1 o2.1 hr.units ⟨.bl _,H,I,rfl,q⟩
def tyD:PyData->String
 | .none => "NoneType"
 | .bool _ => "bool"
 | .int _ => "int"
 | .str _ => "str"
 | .list _ => "list"
 | .tuple _ => "tuple"
 | .dict _ => "dict"
inductive Ty6:String->Prop where
 | int:Ty6 "int" | bool:Ty6 "bool" | str:Ty6 "str" | list:Ty6 "list" | tuple:Ty6 "tuple" | dict:Ty6 "dict"
def kO (d:PyData)(T:String):Bool:=tyD d == T || (T == "int" && tyD d == "bool")
theorem wM {K:PySem.W.Frag}(d:PyData){T:String}(h:Ty6 T):PySem.W.kitOne K (.type (tyD d)) (.type T)=some (kO d T):=by
 cases h <;> cases d <;> rfl
theorem vc:dY X (.builtin "isinstance") (λ xs H Q=>∃ x d T,xs=[x,.ty T]/\ay X.K H d x/\Ty6 T/\Q (.bl (kO d T)) H):=by
 intro pins s σ H xs us Q I r h
 obtain ⟨x,d,T,rfl,rd,h6,q⟩:=h
 obtain ⟨u,w',rfl,rx,ry⟩:=vals2 r
 cases (show w'=Value.type T from ry)
 have e:=wM (K:=X.K) d h6
 have fin:∀ tk,EP X pins σ Q (.bool (kO d T)) { s with toks:=tk }:=λ tk=>⟨.bl _,H,I.tok _,rfl,q⟩
 generalize kO d T=b at e fin
 cases d with
 | none=>simp only [ay] at rd; subst rd; cases (show u=Value.none from rx); exact PySem.W.kia_one PySem.W.kitx_none I.kIn True.intro e (λ z=>nomatch z) fin
 | bool y=>simp only [ay] at rd; subst rd; cases (show u=Value.bool y from rx); exact PySem.W.kia_one PySem.W.kitx_bool I.kIn True.intro e (λ z=>nomatch z) fin
 | int i=>simp only [ay] at rd; subst rd; obtain ⟨t,z⟩:=(show ∃ t,u=Value.int i t from rx); subst z; exact PySem.W.kia_one PySem.W.kitx_int I.kIn True.intro e (λ z=>nomatch z) fin
 | str y=>simp only [ay] at rd; subst rd; obtain ⟨t,z⟩:=(show ∃ t,u=Value.str y t from rx); subst z; exact PySem.W.kia_one PySem.W.kitx_str I.kIn True.intro e (λ z=>nomatch z) fin
 | list ds =>
  simp only [ay] at rd
  obtain ⟨a,vs,z,hs,_⟩:=rd
  subst z
  cases (show u=Value.ref a from rx)
  obtain ⟨its,rv,⟨o,n,e1,e2,e3,e4⟩,hz⟩:=I.list hs.sq
  exact PySem.W.kia_one PySem.W.kitx_list I.kIn ⟨_,e1,e2⟩ e (λ z=>nomatch z) fin
 | tuple ds =>
  simp only [ay] at rd
  obtain ⟨a,vs,z,hs,_⟩:=rd
  subst z
  cases (show u=Value.ref a from rx)
  obtain ⟨its,rv,⟨o,e1,e2,e3⟩,hz⟩:=I.tuple hs
  exact PySem.W.kia_one PySem.W.kitx_tuple I.kIn ⟨_,e1,e2⟩ e (λ z=>nomatch z) fin
 | dict kvs =>
  simp only [ay] at rd
  obtain ⟨a,o,l,z,ha,_⟩:=rd
  subst z
  cases (show u=Value.ref a from rx)
  obtain ⟨_,hs,vs,kv,o',es,ep,e1,e2,_⟩:=vW I.hok (.inr ⟨o,ha⟩)
  exact PySem.W.kia_one PySem.W.kitx_dict I.kIn ⟨_,e1,e2.1⟩ e (λ z=>nomatch z) fin
theorem oZ {K:PySem.W.Frag}{H:Hp}:∀ {bs:List Bool} {vs:List V} {us:List Value},bj K H (bs.map PyData.bool) vs->Vals vs us->LSm.BoolsAre us bs
 | [],vs,us,h,r=>by simp only [List.map_nil,bj] at h; subst h; cases r; exact .nil
 | b :: bs,vs,us,h,r=>by
  simp only [List.map_cons,bj] at h
  obtain ⟨v,vr,e,h1,h2⟩:=h
  subst e
  simp only [ay] at h1
  subst h1
  cases r with
  | cons r1 r2=>cases (show _=Value.bool b from r1); exact .cons b (oZ h2 r2)
theorem xQ (hc:X.calm=true):dY X (.builtin "all") (λ xs H Q=>∃ (x:V) (bs:List Bool),xs=[x]/\ay X.K H (.list (bs.map PyData.bool)) x/\Q (.bl (bs.all id)) H):=by
 intro pins s σ H xs us Q I r h
 obtain ⟨x,bs,rfl,rd,q⟩:=h
 obtain ⟨u,rfl,rx⟩:=vals1 r
 simp only [ay] at rd
 obtain ⟨a,vs,z,hs,ra⟩:=rd
 subst z
 cases (show u=Value.ref a from rx)
 obtain ⟨its,rv,pl,hz⟩:=I.list hs.sq
 obtain ⟨m,F⟩:=I.fr
 have N:News X.base X.env.locals s.heap []:=λ p hp=>nomatch hp
 have hb:=oZ ra rv
 have hl:s.heap.IsList a its.toArray:=pl.isList
 have hlt:a < s.heap.objs.size:=by obtain ⟨_,e,_⟩:=hl; exact Heap.lt_size e
 refine call_all_walk (wpAny_pyIter_list hl ?_)
 refine ⟨s.heap.objs.size,[s.heap.objs.size,a],[s.heap.objs.size],its.toArray.size,_,_,λ i=>(bs[i]?).getD true,rfl,Walks.list (A:=X.A.in1) (I.ok.hd hc) _ a (Nat.ne_of_lt hlt) its.toArray,
  ⟨⟨_,Heap.get?_push_size _ rfl,rfl,rfl⟩,hl.push _⟩,λ i v s' Q' E' hP hQ=>?_,λ h' tk hk=>?_⟩
 ·obtain ⟨b,e,rfl⟩:=hb.get i v (by simpa using hP)
  simp only [e,Option.getD_some] at hQ
  exact wpAny_truthy_bool hQ
 ·have e:((List.range its.toArray.size).all λ i=>(bs[i]?).getD true)=bs.all id:=by
   rw [List.size_toArray,hb.length]; exact LSm.range_all bs
  rw [e]
  exact ⟨.bl _,H,I.kept (LSm.kept_iter hk),rfl,q⟩
end
end D
namespace D
open PySem PySem.Spec PyProof.Rows L2
section
variable {X:Cx}{K:PySem.W.Frag}
theorem OpR.or {f:Value->Value->Sem Value}{r r':R2}(h:OpR X f r)(h':OpR X f r'):OpR X f (λ x y H Q=>r x y H Q\/r' x y H Q):=by
 intro pins s σ H x y v u Q I rx ry q
 rcases q with q | q
 ·exact h pins s σ H x y v u Q I rx ry q
 ·exact h' pins s σ H x y v u Q I rx ry q
theorem OpD.or {r r':R2}{rd rd':W->W->MH->QD->Prop}(h:OpD K r rd)(h':OpD K r' rd'):OpD K (λ x y H Q=>r x y H Q\/r' x y H Q) (λ w w' M Q=>rd w w' M Q\/rd' w w' M Q):=by
 intro x y H w w' M Qd Q r1 r2 m q k
 rcases q with q | q
 ·exact .inl (h x y H w w' M Qd Q r1 r2 m q k)
 ·exact .inr (h' x y H w w' M Qd Q r1 r2 m q k)
def aca (g:Int->Int->PyData)(w:W)(w':W)(M:MH)(Q:QD):Prop:=∃ i j,w=.d (.int i)/\w'=.d (.int j)/\Q (.d (g i j)) M
def rdI (C:Int->Int->Prop)(g:Int->Int->PyData)(w:W)(w':W)(M:MH)(Q:QD):Prop:=∃ i j,w=.d (.int i)/\w'=.d (.int j)/\C i j/\Q (.d (g i j)) M
theorem lJ {g:Int->Int->V}{gd:Int->Int->PyData}(hg:∀ i j H,ay K H (gd i j) (g i j)):OpD K (rI0 g) (aca gd):=by
 intro x y H w w' M Qd Q r1 r2 m ⟨i,j,e1,e2,q⟩ k
 subst e1; subst e2
 simp only [az,ay] at r1 r2
 exact ⟨i,j,r1,r2,k _ H (.d (gd i j)) M (Kp.refl H) (hg i j H) m q⟩
theorem aaP {C:Int->Int->Prop}{g:Int->Int->V}{gd:Int->Int->PyData}(hg:∀ i j H,ay K H (gd i j) (g i j)):OpD K (rI C g) (rdI C gd):=by
 intro x y H w w' M Qd Q r1 r2 m ⟨i,j,e1,e2,c,q⟩ k
 subst e1; subst e2
 simp only [az,ay] at r1 r2
 exact ⟨i,j,r1,r2,c,k _ H (.d (gd i j)) M (Kp.refl H) (hg i j H) m q⟩
def yY (w w':W)(M:MH)(Q:QD):Prop:=aca (λ i j=>.int (i - j)) w w' M Q
def fw (w w':W)(M:MH)(Q:QD):Prop:=rdI ae4 (λ i j=>.int (i * j)) w w' M Q
def d9 (w w':W)(M:MH)(Q:QD):Prop:=rdI (λ _ j=>0 < j) (λ i j=>.int (i % j)) w w' M Q
def qg (w w':W)(M:MH)(Q:QD):Prop:=rdI agj (λ i j=>.int (i / j)) w w' M Q
def dG (w:W)(w':W)(M:MH)(Q:QD):Prop:=aca (λ i j=>.int (i+j)) w w' M Q\/∃ x y,w=.d (.str x)/\w'=.d (.str y)/\x.length+y.length<=sizeLine/\Q (.d (.str (x++y))) M
theorem qN:OpD K (rI0 λ i j=>.int (i - j)) yY:=lJ λ _ _ _=>by simp [ay]
theorem e9:OpD K (rI ae4 λ i j=>.int (i * j)) fw:=aaP λ _ _ _=>by simp [ay]
theorem dZ:OpD K (rI (λ _ j=>0 < j) λ i j=>.int (i % j)) d9:=aaP λ _ _ _=>by simp [ay]
theorem mF:OpD K (rI agj λ i j=>.int (i / j)) qg:=aaP λ _ _ _=>by simp [ay]
def acM:R2:=λ x y H Q=>∃ i j,x=.str i/\y=.str j/\i.length+j.length<=sizeLine/\Q (.str (i++j)) H
theorem zH:OpD K acM (λ w w' M Q=>∃ x y,w=.d (.str x)/\w'=.d (.str y)/\x.length+y.length<=sizeLine/\Q (.d (.str (x++y))) M):=by
 intro x y H w w' M Qd Q r1 r2 m ⟨i,j,e1,e2,c,q⟩ k
 subst e1; subst e2
 simp only [az,ay] at r1 r2
 exact ⟨i,j,r1,r2,c,k _ H (.d (.str (i++j))) M (Kp.refl H) (by simp [az,ay]) m q⟩
theorem cz:OpR X (binaryOp .Add) (λ x y H Q=>rI0 (λ i j=>.int (i+j)) x y H Q\/acM x y H Q):=OpR.or adz ud
theorem bJ:OpD K (λ x y H Q=>rI0 (λ i j=>.int (i+j)) x y H Q\/acM x y H Q) dG:=OpD.or (lJ λ _ _ _=>by simp [ay]) zH
def rS (g:Str->Str->Bool):R2:=λ x y H Q=>∃ i j,x=.str i/\y=.str j/\Q (.bl (g i j)) H
def rdS (g:Str->Str->Bool)(w:W)(w':W)(M:MH)(Q:QD):Prop:=∃ i j,w=.d (.str i)/\w'=.d (.str j)/\Q (.d (.bool (g i j))) M
theorem afR {g:Str->Str->Bool}:OpD K (rS g) (rdS g):=by
 intro x y H w w' M Qd Q r1 r2 m ⟨i,j,e1,e2,q⟩ k
 subst e1; subst e2
 simp only [az,ay] at r1 r2
 exact ⟨i,j,r1,r2,k _ H (.d (.bool (g i j))) M (Kp.refl H) (by simp [az,ay]) m q⟩
theorem xj:OpR X (compareOp .LtE) (rS λ x y=>!decide (y.cps.toList < x.cps.toList)):=by
 intro pins s σ H x y v u Q I rx ry h
 obtain ⟨i,j,rfl,rfl,q⟩:=h
 obtain ⟨t,rfl⟩:=rx
 obtain ⟨t',rfl⟩:=ry
 exact PySem.P.le_str ⟨.bl _,H,I,rfl,q⟩
def aaC (w:W)(w':W)(M:MH)(Q:QD):Prop:=aca (λ i j=>.bool (decide (i<=j))) w w' M Q\/rdS (λ x y=>!decide (y.cps.toList < x.cps.toList)) w w' M Q
theorem jG:OpR X (compareOp .LtE) (λ x y H Q=>rI0 (λ i j=>.bl (decide (i<=j))) x y H Q\/rS (λ x y=>!decide (y.cps.toList < x.cps.toList)) x y H Q):=OpR.or agn xj
theorem gG:OpD K (λ x y H Q=>rI0 (λ i j=>.bl (decide (i<=j))) x y H Q\/rS (λ x y=>!decide (y.cps.toList < x.cps.toList)) x y H Q) aaC:=OpD.or (lJ λ _ _ _=>by simp [ay]) afR
def afj (w w':W)(M:MH)(Q:QD):Prop:=aca (λ i j=>.bool (decide (i < j))) w w' M Q
def acK (w w':W)(M:MH)(Q:QD):Prop:=aca (λ i j=>.bool (decide (j < i))) w w' M Q
def afa (w w':W)(M:MH)(Q:QD):Prop:=aca (λ i j=>.bool (decide (j<=i))) w w' M Q
theorem yl:OpD K (rI0 λ i j=>.bl (decide (i < j))) afj:=lJ λ _ _ _=>by simp [ay]
theorem tV:OpD K (rI0 λ i j=>.bl (decide (j < i))) acK:=lJ λ _ _ _=>by simp [ay]
theorem aaN:OpD K (rI0 λ i j=>.bl (decide (j<=i))) afa:=lJ λ _ _ _=>by simp [ay]
def agP (w:W)(w':W)(M:MH)(Q:QD):Prop:=∃ d d',w=.d d/\w'=.d d'/\dO d d'=true/\Q (.d (.bool (PyData.eqv d d'))) M
theorem adn:OpD K (λ x y H Q=>∃ d d',ay K H d x/\ay K H d' y/\dO d d'=true/\Q (.bl (PyData.eqv d d')) H) agP:=by
 intro x y H w w' M Qd Q r1 r2 m ⟨d,d',e1,e2,o1,q⟩ k
 subst e1; subst e2
 exact ⟨d,d',r1,r2,o1,k _ H (.d (.bool _)) M (Kp.refl H) (by simp [az,ay]) m q⟩
def abN (w:W)(M:MH)(Q:QD):Prop:=∃ i,w=.d (.int i)/\Q (.d (.int (-i))) M
theorem vD:UnD K (rU λ i=>.int (-i)) abN:=by
 intro x H w M Qd Q r m ⟨i,e,q⟩ k
 subst e
 simp only [az,ay] at r
 exact ⟨i,r,k _ H (.d (.int (-i))) M (Kp.refl H) (by simp [az,ay]) m q⟩
def yz:W->Bool
 | .d (.str z)=>decide (z.length<=sizeLine)
 | _=>true
def ixW (M:MH):W->Int->Option W
 | .d (.list ds),i=>(atI ds i).map W.d
 | .d (.tuple ds),i=>(atI ds i).map W.d
 | .d (.str z),i=>(atI z.cps.toList i).map λ c=>W.d (.str ⟨#[c]⟩)
 | .m a,i=>match M a with
  | some (.lst ws)=>atI ws i
  | some (.tup ws)=>atI ws i
  | _=>none
 | _,_=>none
inductive RIx (w:W) (w':W) (M:MH) (Q:QD):Prop
 | mk (i:Int) (x:W) (z0:w'=.d (.int i)) (z1:ixW M w i=some x) (z2:yz w=true) (q:Q x M):RIx w w' M Q
def dJ (w:W)(w':W)(M:MH)(Q:QD):Prop:=RIx w w' M Q
theorem rX {H:Hp}{ds:List PyData}{vs:List V}{i:Int}{d:PyData}(r:bj K H ds vs)(e:atI ds i=some d):∃ v,atI vs i=some v/\ay K H d v:=by
 unfold atI at e ⊢
 rw [r.length]
 cases q:ixN ds.length i with
 | none=>rw [q] at e; cases e
 | some j =>
  rw [q] at e
  exact r.get e
theorem oX {H:Hp}{ds:List W}{vs:List V}{i:Int}{d:W}(r:aJ K H ds vs)(e:atI ds i=some d):∃ v,atI vs i=some v/\az K H d v:=by
 unfold atI at e ⊢
 rw [<- r.length]
 cases q:ixN ds.length i with
 | none=>rw [q] at e; cases e
 | some j =>
  rw [q] at e
  exact r.get e
theorem aS:OpD K (rIx K) dJ:=by
 intro x y H w w' M Qd Q r1 r2 m ⟨i,z,e2,ei,hf,q⟩ k
 subst e2
 simp only [az,ay] at r2
 cases w with
 | t n=>simp [ixW] at ei
 | m a =>
  simp only [az] at r1
  simp only [ixW] at ei
  cases hm:M a with
  | none=>rw [hm] at ei; cases ei
  | some mo =>
   rw [hm] at ei
   cases mo with
   | lst ws =>
    obtain ⟨vs,e1,rw1⟩:=m a _ hm
    obtain ⟨v,e3,rv⟩:=oX rw1 ei
    exact .inl ⟨a,vs,i,v,r1,r2,SqL.of e1,e3,k v H z M (Kp.refl H) rv m q⟩
   | dic _=>cases ei
   | dct _=>cases ei
   | fdic _=>cases ei
   | ins _ _=>cases ei
   | tup ws =>
    obtain ⟨vs,e1,rw1⟩:=m a _ hm
    obtain ⟨v,e3,rv⟩:=oX rw1 ei
    exact .inr (.inl ⟨a,vs,i,v,r1,r2,.inl (.inl e1),e3,k v H z M (Kp.refl H) rv m q⟩)
   | flst _=>cases ei
   | exc _ _=>cases ei
   | code _ _=>cases ei
 | d d =>
  cases d with
  | list ds =>
   simp only [az,ay] at r1
   obtain ⟨a,vs,e1,hs,ra⟩:=r1
   simp only [ixW] at ei
   cases h:atI ds i with
   | none=>rw [h] at ei; cases ei
   | some d =>
    rw [h] at ei
    cases ei
    obtain ⟨v,e3,rv⟩:=rX ra h
    exact .inl ⟨a,vs,i,v,e1,r2,hs.sq,e3,k v H (.d d) M (Kp.refl H) rv m q⟩
  | tuple ds =>
   simp only [az,ay] at r1
   obtain ⟨a,vs,e1,hs,ra⟩:=r1
   simp only [ixW] at ei
   cases h:atI ds i with
   | none=>rw [h] at ei; cases ei
   | some d =>
    rw [h] at ei
    cases ei
    obtain ⟨v,e3,rv⟩:=rX ra h
    exact .inr (.inl ⟨a,vs,i,v,e1,r2,hs,e3,k v H (.d d) M (Kp.refl H) rv m q⟩)
  | str s =>
   simp only [az,ay] at r1
   simp only [ixW] at ei
   cases h:atI s.cps.toList i with
   | none=>rw [h] at ei; cases ei
   | some c =>
    rw [h] at ei
    cases ei
    exact .inr (.inr ⟨s,i,c,r1,r2,of_decide_eq_true hf,h,k _ H (.d (.str ⟨#[c]⟩)) M (Kp.refl H) (by simp [az,ay]) m q⟩)
  | _=>simp [ixW] at ei
theorem abk {e:Expr}{t:TE}(h:PE X e t):PE X e (λ σ H Q=>t σ H λ v H1=>Q v H1\/∃ p u,v=.ref p/\H1 p=some u/\Fz u/\∀ o,Q v (upd H1 p (.frz o u))):=by
 intro pins s σ H Q I hq
 refine thn (h pins s σ H _ I hq) λ v s1 hq45=>?_
 obtain ⟨x,H1,I1,r1,q⟩:=hq45
 rcases q with q | ⟨p,u,e1,e2,f,q⟩
 ·exact ⟨x,_,I1,r1,q⟩
 ·obtain ⟨o,I2⟩:=I1.freeze e2 f
  exact ⟨x,_,I2,r1,q o⟩
def agZ:V->Option Int->Option Int->Hp->VK->Prop:=λ x lo hi H Q=>∃ z,x=.str z/\z.length<=sizeLine/\Q (.str (Txt.slice z lo hi)) H
theorem adl:SlR X agZ:=by
 intro pins s σ H x v vl vu lo hi sl Q I rx hs pl pu h
 obtain ⟨z,rfl,hz,q⟩:=h
 obtain ⟨t,rfl⟩:=rx
 have fin:∀ t' k,EP X pins σ Q (.str (Txt.slice z lo hi) t') { s with toks:=k }:=λ t' k=>⟨.str _,H,I.tok _,⟨_,rfl⟩,q⟩
 refine ⟨"str",_,F.slot_str_getitem.lookup,typeIs_str _ _ _,?_⟩
 cases pl with
 | none =>
  cases pu with
  | none=>exact wpAny_getItem_str_slice (l:=none) (u:=none) (st:=none) hs rfl (post_val_or_str ⟨Nat.le_trans (Txt.slice_le z _ _) hz,fin⟩)
  | int j uj=>exact wpAny_getItem_str_slice (l:=none) (u:=some (j,uj)) (st:=none) hs rfl (post_val_or_str ⟨Nat.le_trans (Txt.slice_le z _ _) hz,fin⟩)
 | int i ui =>
  cases pu with
  | none=>exact wpAny_getItem_str_slice (l:=some (i,ui)) (u:=none) (st:=none) hs rfl (post_val_or_str ⟨Nat.le_trans (Txt.slice_le z _ _) hz,fin⟩)
  | int j uj=>exact wpAny_getItem_str_slice (l:=some (i,ui)) (u:=some (j,uj)) (st:=none) hs rfl (post_val_or_str ⟨Nat.le_trans (Txt.slice_le z _ _) hz,fin⟩)
abbrev TOd:=DS->MH->(Option Int->MH->Prop)->Prop
def upO (K:PySem.W.Frag)(t:TOd):TO:=λ σ H Q=>∃ τ M Qd,Abs K H σ τ M/\t τ M Qd/\∀ b H' M',Kp H H'->cm K H' M'->Qd b M'->Q b H'
abbrev POd (X:Cx)(e:Option Expr)(t:TOd):Prop:=PO X e (upO X.K t)
theorem agR {e:Option Expr}{t t':TO}(h:PO X e t)(k:∀ σ H Q,t' σ H Q->t σ H Q):PO X e t':=λ pins s σ H Q I q=>h pins s σ H Q I (k σ H Q q)
def eS (_:DS)(M:MH)(Q:Option Int->MH->Prop):Prop:=Q none M
def nH (t:TD)(τ:DS)(M:MH)(Q:Option Int->MH->Prop):Prop:=t τ M λ w M1=>∃ i,w=.d (.int i)/\Q (some i) M1
theorem dt:POd X none eS:=agR abO λ σ H Q ⟨τ,M,Qd,A,q,k⟩=>k none H M (Kp.refl H) A.mem q
theorem dj {e:Expr}{te:TD}(h:PD X e te):POd X (some e) (nH te):=agR (abt h) λ σ H Q ⟨τ,M,Qd,A,q,k⟩=>⟨τ,M,_,A,q,λ v H1 w M1 kp r m hq46=>by
 obtain ⟨i,e,q1⟩:=hq46
 subst e
 simp only [az,ay] at r
 exact ⟨i,r,k _ H1 M1 kp m q1⟩⟩
def cutD {α:Type}(xs:List α)(lo hi:Option Int):List α:=(xs.drop (HT.sIx xs.length 0 lo)).take (HT.sIx xs.length xs.length hi - HT.sIx xs.length 0 lo)
def aai (n:Nat)(lo hi:Option Int):Bool:=decide (HT.sIx n 0 lo=0/\HT.sIx n n hi=n)
def slW:W->Option Int->Option Int->Option W
 | .d (.list ds),lo,hi=>some (.d (.list (cutD ds lo hi)))
 | .d (.tuple ds),lo,hi=>if aai ds.length lo hi then none else some (.d (.tuple (cutD ds lo hi)))
 | .d (.str z),lo,hi=>some (.d (.str (Txt.slice z lo hi)))
 | _,_,_=>none
def dSl (te:TD)(tl th:TOd)(τ:DS)(M:MH)(Q:QD):Prop:=te τ M λ w M1=>tl τ M1 λ lo M2=>th τ M2 λ hi M3=>∃ z,slW w lo hi=some z/\yz w=true/\Q z M3
theorem acW:SlR X (λ x lo hi H Q=>agN X.K x lo hi H Q\/agD X.K x lo hi H Q\/agZ x lo hi H Q):=vg.or (aeb.or adl)
theorem bj.cut {H:Hp}{ds:List PyData}{vs:List V}(r:bj K H ds vs)(lo hi:Option Int):bj K H (cutD ds lo hi) (xl vs lo hi):=by
 unfold cutD xl
 rw [r.length]
 exact (r.drop _).take _
theorem dX {e:Expr}{te:TD}{lo hi:Option Expr}{tl th:TOd}{pos p2:Pos}(he:PD X e te)(hl:POd X lo tl)(hu:POd X hi th):PD X (.Subscript e (.Slice lo hi none p2) pos) (dSl te tl th) :=
 eO (abk (tE acW he hl hu)) λ σ H Q h=>by
  obtain ⟨τ,M,Qd,A,h,k⟩:=h
  refine ⟨τ,M,_,A,h,λ v H1 w M1 kp1 r1 m1 q1=>⟨τ,M1,_,A.go kp1 m1,q1,λ lo H2 M2 kp2 m2 q2=>⟨τ,M2,_,A.go (kp1.trans kp2) m2,q2,λ hi H3 M3 kp3 m3 q3=>?_⟩⟩⟩
  obtain ⟨z,ez,hf,q⟩:=q3
  have kp:=(kp1.trans kp2).trans kp3
  have r:=r1.keep (kp2.trans kp3)
  cases w with
  | t n=>simp [slW] at ez
  | m a=>simp [slW] at ez
  | d d =>
   cases d with
   | list ds =>
    simp only [slW] at ez
    cases ez
    simp only [az,ay] at r
    obtain ⟨a,vs,e1,hs,ra⟩:=r
    exact .inl ⟨a,vs,e1,hs.sq,λ p hp=>.inr (nY hp (bj.cut ra lo hi) m3 q (kgo k kp))⟩
   | tuple ds =>
    simp only [slW] at ez
    split at ez
    ·cases ez
    ·rename_i hw
     cases ez
     simp only [az,ay] at r
     obtain ⟨a,vs,e1,hs,ra⟩:=r
     refine .inr (.inl ⟨a,vs,e1,hs,?_,λ p hp=>.inl ?_⟩)
     ·rw [ra.length]
      simpa [aai] using hw
     ·refine k _ _ (.d (.tuple _)) M3 (kp.trans (Kp.new hp)) ?_ (m3.new hp) q
      simp only [az,ay]
      exact ⟨p,_,rfl,.inl (.inl au),(bj.cut ra lo hi).keep (Kp.new hp)⟩
   | str s =>
    simp only [slW] at ez
    cases ez
    simp only [az,ay] at r
    exact .inr (.inr ⟨s,r,of_decide_eq_true hf,.inl (k _ H3 (.d (.str _)) M3 kp (by simp [az,ay]) m3 q)⟩)
   | _=>simp [slW] at ez
def yv (to ti:TD)(v:W)(τ:DS)(M:MH)(Q:DS->MH->Prop):Prop:=to τ M λ w M1=>ti τ M1 λ w' M2=>∃ a ws i j,w=.m a/\w'=.d (.int i)/\M2 a=some (.lst ws)/\ixN ws.length i=some j/\Q τ (aK M2 a (.lst (ws.set j v)))
theorem wI {H:Hp}{M:MH}{a:Addr}{ws:List W}{vs:List V}{j:Nat}{v:V}{w:W}(m:cm K H M)(e:H a=some (.lst vs))(rw1:aJ K H ws vs)(rv:az K H w v) :
  Kp H (upd H a (.lst (vs.set j v)))/\cm K (upd H a (.lst (vs.set j v))) (aK M a (.lst (ws.set j w))):=by
 have kp:Kp H (upd H a (.lst (vs.set j v))):=Kp.set e (λ xs z=>nomatch z) λ _ _ z=>nomatch z
 exact ⟨kp,m.put kp ⟨_,au,(aJ.set rv j rw1).keep kp⟩⟩
theorem iF {o i:Expr}{to ti:TD}{pos:Pos}(ho:PD X o to)(hi:PD X i ti)
  (ha:∀ v,assign (.Subscript o i pos) X.env v=(do
   let ov <- holding [v] (eval o X.env)
   let iv <- holding [v,ov] (eval i X.env)
   standAt pos
   holding [v,ov,iv] (setItem ov iv v)
   release [v,ov,iv] []):=by intro _; rfl):PGd X (.Subscript o i pos) (yv to ti):=afA (ade ho hi set_list ha) λ v σ H Q h=>by
 obtain ⟨w,τ,M,Qd,rv,A,h,k⟩:=h
 refine ⟨τ,M,_,A,h,λ x H1 wo M1 kp1 r1 m1 q1=>⟨τ,M1,_,A.go kp1 m1,q1,λ y H2 wi M2 kp2 r2 m2 q2=>?_⟩⟩
 obtain ⟨a,ws,i,j,e1,e2,hm,hj,q⟩:=q2
 subst e1; subst e2
 simp only [az,ay] at r1 r2
 obtain ⟨vs,e3,rw1⟩:=m2 a _ hm
 have kp:=kp1.trans kp2
 obtain ⟨kp3,m3⟩:=wI (j:=j) m2 e3 rw1 (rv.keep kp)
 exact ⟨a,vs,i,j,r1,r2,e3,by rw [<- rw1.length]; exact hj,k σ _ τ _ (kp.trans kp3) (A.go (kp.trans kp3) m3) q⟩
theorem zB:afX X (agg X.K):=by
 intro pins s σ H o i ov iv Q I ro ri h
 obtain ⟨p,xs,k,z,rfl,rfl,hq,he,q⟩:=h
 cases ro
 obtain ⟨t,rfl⟩:=ri
 obtain ⟨its,r,pl,hz⟩:=I.list hq
 obtain ⟨j,h1,h2,h3,h4,h5⟩:=mX he
 obtain ⟨w,ew,rw'⟩:=r.get h2
 have hl:=r.length
 have hn:=kh
 have fin:EP X pins σ Q w s:=⟨z,H,I,rw',q⟩
 by_cases h0:0<=k
 ·have hj:k.toNat=j:=by
   rw [seqIndex_of h0 h5] at h1
   exact Option.some.inj h1
  exact wpAny_getItem_list pl.isList h0 (by omega) (by rw [hj]; simpa using ew) fin
 ·have hj:(k+(its.toArray.size:Int)).toNat=j:=by
   rw [seqIndex_neg (by omega) h4] at h1
   rw [List.size_toArray,<- hl]
   exact Option.some.inj h1
  exact wpAny_getItem_list_neg pl.isList (by omega) (by rw [List.size_toArray] <;> omega) (by omega) (by rw [hj]; simpa using ew) fin
def zx (to ti te:TD)(f:Int->Int->Int)(D:Ed)(τ:DS)(M:MH):Prop:=to τ M λ w M1=>ti τ M1 λ w' M2=>∃ a ws i j n,w=.m a/\w'=.d (.int i)/\M2 a=some (.lst ws)/\ixN ws.length i=some j/\ws[j]? = some (.d (.int n)) /\
 te τ M2 λ y M3=>∃ n',y=.d (.int n')/\M3=M2/\D.nx τ (aK M3 a (.lst (ws.set j (.d (.int (f n n'))))))
theorem mR {o i e:Expr}{to ti te:TD}{op:Operator}{f:Int->Int->Int}{pos tpos:Pos}(ho:PD X o to)(hi:PD X i ti)(he:PD X e te)(hp:PIp X op (ipI f))
  (ha:∀ ov iv new,augStore i ov iv new=(do holding [new,ov,iv] (setItem ov iv new); release [new,ov,iv] []; pure .next):=by intros; rfl):PSd X (.AugAssign (.Subscript o i tpos) op e pos) (zx to ti te f) :=
 tG (vG ho hi zB he hp set_list ha) λ D σ H h=>by
  obtain ⟨τ,M,Dd,A,h,k1,_⟩:=h
  refine ⟨τ,M,_,A,h,λ x H1 wo M1 kp1 r1 m1 q1=>⟨τ,M1,_,A.go kp1 m1,q1,λ y H2 wi M2 kp2 r2 m2 q2=>?_⟩⟩
  obtain ⟨a,ws,i,j,n,e1,e2,hm,hj,hn,q⟩:=q2
  subst e1; subst e2
  simp only [az,ay] at r1 r2
  obtain ⟨vs,e3,rw1⟩:=m2 a _ hm
  obtain ⟨v,e4,rv⟩:=rw1.get hn
  simp only [az,ay] at rv
  have hj':ixN vs.length i=some j:=by rw [<- rw1.length]; exact hj
  refine ⟨a,vs,i,v,r1,r2,SqL.of e3,by unfold atI; rw [hj']; exact e4,?_⟩
  refine ⟨τ,M2,_,A.go (kp1.trans kp2) m2,q,λ z H3 wz M3 kp3 r3 m3 q3=>?_⟩
  obtain ⟨n',e5,e6,qn⟩:=q3
  subst e5; subst e6
  simp only [az,ay] at r3
  refine ⟨n,n',rv,r3,?_⟩
  obtain ⟨vs',e3',rw2⟩:=m3 a _ hm
  have kp:=(kp1.trans kp2).trans kp3
  obtain ⟨kp4,m4⟩:=wI (j:=j) (v:=.int (f n n')) (w:=.d (.int (f n n'))) m3 e3' rw2 (by simp [az,ay])
  exact ⟨a,vs',i,j,r1,r2,e3',by rw [<- rw2.length]; exact hj,k1 σ _ τ _ (kp.trans kp4) (A.go (kp.trans kp4) m4) qn⟩
end
end D
namespace D
open PySem PySem.Spec PyProof.Rows L2
section
variable {X:Cx}{K:PySem.W.Frag}{tg:Expr}
def Its (z:Str):It:=⟨λ i _=>i < z.cps.size,λ i H x H'=>H'=H/\∃ c,z.cps[i]? = some c/\x=.str ⟨#[c]⟩,λ i _=>z.cps.size<=i⟩
theorem sR {P:Program}{w:World}{K:PySem.W.Frag}{tg:Expr}(it:Addr)(T:String)(z:Str)(t:Tok)
  (hT:["enumerate", "zip", "dict_itemiterator", "dict_reverseitemiterator", "odict_iterator", "itertools.zip_longest", "itertools.pairwise"].contains T=false)
  (W:∀ A:Around,A.handled=none->Walks P w A it [it] [it] z.cps.size (SignAt z) (λ i h=>h.IsStrIter it T z t i))(hself:∀ (A:Around) (i:Nat) (s:Shared) (Q:Value->Shared->Prop) (E:Value->Shared->Prop),s.heap.IsStrIter it T z t i->Q (.ref it) s->wpAny (model P w) A (pyIter (.ref it)) Q E s)
  (hend:∀ (A:Around) (i:Nat) (s:Shared) (Q:Option Value->Shared->Prop) (E:Value->Shared->Prop),A.handled=none->s.heap.IsStrIter it T z t i->z.cps[i]? = none->(∀ h',Heap.ExtBut it s.heap h'->Q none { s with heap:=h' })->wpAny (model P w) A (pyNext (.ref it)) Q E s) :
  Turn P w K tg (Its z) [it] it (λ i h=>h.IsStrIter it T z t i) where
 mem:=by simp
 obj:=λ i h st b hb=>by
  have e:b=it:=by simpa using hb
  subst e
  obtain ⟨o,e,c,d⟩:=st
  exact ⟨o,e,λ v q=>by rw [d] at q; cases q⟩
 keep:=λ i h h' st k=>by
  obtain ⟨o,e,r⟩:=st
  exact ⟨o,k it (by simp) o e,r⟩
 item:=by
  intro X hP hw hK hc i pins s σ H E I hf st hg
  subst hP hw hK
  obtain ⟨f0,f1,f2,f3,f4,f5⟩:=hf it (by simp)
  refine (W X.A (I.ok.hd hc)).item i s _ _ hg st λ v h' tk hv st' kk=>?_
  obtain ⟨c,u,hc',rfl⟩:=hv
  have I1:Inv X pins σ H { s with heap:=h',toks:=tk }:=I.turned (λ b o hb e=>kk b o (by simpa using hb) e) f0 f1 f3 f4 f5
  obtain ⟨o,e,cl,d⟩:=id st'
  exact ⟨_,rfl,xu (s:={ s with heap:=h',toks:=tk }) e cl d hT ⟨.str ⟨#[c]⟩,H,I1,⟨u,rfl⟩,⟨rfl,c,hc',rfl⟩,st',λ b hb=>(hf b hb).1⟩⟩
 done:=by
  intro X hP hw hK hc i pins s σ H E I hf st hg
  subst hP hw hK
  obtain ⟨f0,f1,f2,f3,f4,f5⟩:=hf it (by simp)
  have hn:z.cps.size<=i:=hg
  exact hend X.A i s _ E (I.ok.hd hc) st (by simp [hn]) λ h' eb=>⟨rfl,I.turned (t':=s.toks) (λ b o hb e=>eb b o hb e) f0 f1 f3 f4 f5⟩
 self:=hself
section
variable {pins:List (Addr×Obj)}{σ:St}{H:Hp}{s:Shared}{R:It->Hp->Prop}{E:Value->Shared->Prop}
theorem adb {z:Str}{t:Tok}(I:Inv X pins σ H s)(q:R (Its z) H):wpAny (model X.prog X.w) X.A (pyIter (.str z t)) (PIE X pins σ tg R) E s:=by
 cases ha:z.cps.all (· < 128)
 ·refine wpAny_pyIter_wide ha ?_
  refine ⟨s.heap.objs.size,[s.heap.objs.size],_,_,H,rfl,I.kept (t':=s.toks) λ b o e=>Heap.get?_push_of_some _ e,
   sR _ "str_iterator" z t (by decide) (λ A hA=>Walks.strWide hA _ z t) (λ A i s Q E st h=>wpAny_pyIter_striter_wide st h) (λ A i s Q E hh st hx hQ=>wpAny_pyNext_wide_end hh st hx hQ),⟨_,Heap.get?_push_size _ rfl,rfl,rfl⟩,λ b hb=>?_,q⟩
  have e:b=s.heap.objs.size:=by simpa using hb
  subst e
  exact I.sy (Nat.le_refl _) (I.hok.fresh (Nat.le_refl _))
 ·refine wpAny_pyIter_ascii ha ?_
  refine ⟨s.heap.objs.size,[s.heap.objs.size],_,_,H,rfl,I.kept (t':=s.toks) λ b o e=>Heap.get?_push_of_some _ e,
   sR _ "str_ascii_iterator" z t (by decide) (λ A hA=>Walks.strAscii hA _ z t) (λ A i s Q E st h=>wpAny_pyIter_striter_ascii st h) (λ A i s Q E hh st hx hQ=>wpAny_pyNext_ascii_end hh st hx hQ),⟨_,Heap.get?_push_size _ rfl,rfl,rfl⟩,λ b hb=>?_,q⟩
  have e:b=s.heap.objs.size:=by simpa using hb
  subst e
  exact I.sy (Nat.le_refl _) (I.hok.fresh (Nat.le_refl _))
theorem ab6 {a:Addr}{xs:List V}(I:Inv X pins σ H s)(hq:SqL X.K H a xs)(q:R (Itl X.K a) H):wpAny (model X.prog X.w) X.A (pyIter (.ref a)) (PIE X pins σ tg R) E s:=by
 obtain ⟨its,rv,p,hz⟩:=I.list hq
 refine wpAny_pyIter_list p.isList ?_
 refine ⟨s.heap.objs.size,[s.heap.objs.size],_,_,H,rfl,I.kept (t':=s.toks) λ b o e=>Heap.get?_push_of_some _ e,wY a _,⟨_,Heap.get?_push_size _ rfl,rfl,rfl⟩,λ b hb=>?_,q⟩
 have e:b=s.heap.objs.size:=by simpa using hb
 subst e
 exact I.sy (Nat.le_refl _) (I.hok.fresh (Nat.le_refl _))
theorem adg {a:Addr}{xs:List V}(I:Inv X pins σ H s)(hq:SqT X.K H a xs)(q:R (Itt X.K a) H):wpAny (model X.prog X.w) X.A (pyIter (.ref a)) (PIE X pins σ tg R) E s:=by
 obtain ⟨its,rv,p,hz⟩:=I.tuple hq
 refine wpAny_pyIter_tuple (show s.heap.IsTuple a its.toArray from p) ?_
 refine ⟨s.heap.objs.size,[s.heap.objs.size],_,_,H,rfl,I.kept (t':=s.toks) λ b o e=>Heap.get?_push_of_some _ e,ur a _,⟨_,Heap.get?_push_size _ rfl,rfl,rfl⟩,λ b hb=>?_,q⟩
 have e:b=s.heap.objs.size:=by simpa using hb
 subst e
 exact I.sy (Nat.le_refl _) (I.hok.fresh (Nat.le_refl _))
end
def ahq (K:PySem.W.Frag)(tl:TE):TI:=λ σ H R=>tl σ H λ x H1=>(∃ a xs,x=.ref a/\SqL K H1 a xs/\R (Itl K a) H1)\/(∃ a xs,x=.ref a/\SqT K H1 a xs/\R (Itt K a) H1)\/∃ z,x=.str z/\R (Its z) H1
theorem adv {l:Expr}{tl:TE}(hl:PE X l tl):PI X tg l (ahq X.K tl):=by
 intro pins s σ H R I h
 refine thn (hl pins s σ H _ I h) λ v s1 hq47=>?_
 obtain ⟨x,H1,I1,r1,q1⟩:=hq47
 rcases q1 with ⟨a,xs,e,hq,q⟩ | ⟨a,xs,e,hq,q⟩ | ⟨z,e,q⟩
 ·subst e; cases r1; exact ab6 I1 hq q
 ·subst e; cases r1; exact adg I1 hq q
 ·subst e; obtain ⟨t,rfl⟩:=r1; exact adb I1 q
def ItD (K:PySem.W.Frag)(J:It)(H0:Hp)(ws:List W):Prop:=∀ H,Kp H0 H->∀ i:Nat,(i < ws.length->J.go i H)/\(ws.length<=i->J.stop i H) /\
 ∀ x H',i < ws.length->J.yld i H x H'->Kp H H'/\(∀ M,cm K H M->cm K H' M)/\∃ w,ws[i]? = some w/\az K H' w x
abbrev TId:=DS->MH->(List W->MH->Prop)->Prop
def upI (K:PySem.W.Frag)(t:TId):TI:=λ σ H R=>∃ τ M Rd,Abs K H σ τ M/\t τ M Rd/\∀ J H' ws M',Kp H H'->cm K H' M'->ItD K J H' ws->Rd ws M'->R J H'
abbrev PId (X:Cx)(tg iter:Expr)(t:TId):Prop:=PI X tg iter (upI X.K t)
theorem afh {iter:Expr}{t t':TI}(h:PI X tg iter t)(k:∀ σ H R,t' σ H R->t σ H R):PI X tg iter t':=λ pins s σ H R I q=>h pins s σ H R I (k σ H R q)
def jw:W->Option (List W)
 | .d (.list ds)=>some (ds.map W.d)
 | .d (.tuple ds)=>some (ds.map W.d)
 | .d (.str z)=>some (z.cps.toList.map λ c=>W.d (.str ⟨#[c]⟩))
 | _=>none
def cK (te:TD)(τ:DS)(M:MH)(R:List W->MH->Prop):Prop:=te τ M λ w M1=>∃ ws,jw w=some ws/\R ws M1
theorem acd {H:Hp}{a:Addr}{vs:List V}{ds:List PyData}(hs:SqT K H a vs)(ra:bj K H ds vs):ItD K (Itt K a) H (ds.map W.d):=λ H1 kp i=>by
 have hl:=ra.length
 refine ⟨λ hi=>?_,λ hi=>⟨vs,SqT.keep kp hs,by rw [List.length_map] at hi; omega⟩,λ x H' hi y=>?_⟩
 ·rw [List.length_map] at hi
  exact ⟨vs,vs[i]'(by omega),SqT.keep kp hs,by simp⟩
 ·obtain ⟨e,y⟩:=y
  subst e
  have ev:=y vs (SqT.keep kp hs)
  obtain ⟨d,e1,rd⟩:=(ra.keep kp).get' ev
  exact ⟨Kp.refl _,λ M m=>m,.d d,by simp [e1],rd⟩
theorem abp {H:Hp}(z:Str):ItD K (Its z) H (z.cps.toList.map λ c=>W.d (.str ⟨#[c]⟩)):=λ H1 kp i=>by
 refine ⟨λ hi=>(show i < z.cps.size by simpa using hi),λ hi=>(show z.cps.size<=i by simpa using hi),λ x H' hi y=>?_⟩
 obtain ⟨e,c,hc,ex⟩:=y
 subst e; subst ex
 exact ⟨Kp.refl _,λ M m=>m,.d (.str ⟨#[c]⟩),by simp [hc],by simp [az,ay]⟩
theorem acn {H:Hp}(lo:Int)(n:Nat):ItD K (Itr lo n) H ((List.range n).map λ i:Nat=>W.d (.int (lo+(i:Int)))):=λ H1 kp i=>by
 refine ⟨λ hi=>(show i < n by simpa using hi),λ hi=>(show n<=i by simpa using hi),λ x H' hi y=>?_⟩
 obtain ⟨e,ex⟩:=y
 subst e; subst ex
 simp at hi
 exact ⟨Kp.refl _,λ M m=>m,.d (.int (lo+i)),by simp [hi],by simp [az,ay]⟩
theorem aY {l:Expr}{te:TD}(h:PD X l te):PId X tg l (cK te):=afh (adv h) λ σ H R hq48=>by
 obtain ⟨τ,M,Rd,A,h,k⟩:=hq48
 refine ⟨τ,M,_,A,h,λ v H1 w M1 kp r m hq49=>?_⟩
 obtain ⟨ws,e,q⟩:=hq49
 cases w with
 | t n=>simp [jw] at e
 | m a=>simp [jw] at e
 | d d =>
  cases d with
  | list ds =>
   simp only [jw] at e
   cases e
   simp only [az,ay] at r
   obtain ⟨a,vs,e1,hs,ra⟩:=r
   refine .inl ⟨a,vs,e1,hs.sq,k _ H1 _ M1 kp m ?_ q⟩
   intro H2 kp2 i
   have hl:=ra.length
   have hs2:=(hs.keep kp2).sq
   refine ⟨λ hi=>?_,λ hi=>⟨vs,hs2,by rw [List.length_map] at hi; omega⟩,λ x H' hi y=>?_⟩
   ·rw [List.length_map] at hi
    exact ⟨vs,vs[i]'(by omega),hs2,by simp⟩
   ·obtain ⟨e,y⟩:=y
    subst e
    have ev:=y vs hs2
    obtain ⟨d,e1,rd⟩:=(ra.keep kp2).get' ev
    exact ⟨Kp.refl _,λ M m=>m,.d d,by simp [e1],rd⟩
  | tuple ds =>
   simp only [jw] at e
   cases e
   simp only [az,ay] at r
   obtain ⟨a,vs,e1,hs,ra⟩:=r
   exact .inr (.inl ⟨a,vs,e1,hs,k _ H1 _ M1 kp m (acd hs ra) q⟩)
  | str z =>
   simp only [jw] at e
   cases e
   simp only [az,ay] at r
   exact .inr (.inr ⟨z,r,k _ H1 _ M1 kp m (abp z) q⟩)
  | _=>simp [jw] at e
def iR (lo:Int)(n:Nat):List W:=(List.range n).map λ i:Nat=>W.d (.int (lo+(i:Int)))
def rK (ta:TAd)(τ:DS)(M:MH)(R:List W->MH->Prop):Prop:=ta τ M λ ws M1=>∃ j:Int,ws=[.d (.int j)]/\-(2 ^ 62)<=j/\j < 2 ^ 62/\R (iR 0 j.toNat) M1
theorem eL {H:Hp}{vs:List V}{w:W}(r:aJ K H [w] vs):∃ v,vs=[v]/\az K H w v:=by
 cases r with
 | cons r1 r2=>cases r2; exact ⟨_,rfl,r1⟩
theorem xB {H:Hp}{vs:List V}{w w':W}(r:aJ K H [w,w'] vs):∃ v v',vs=[v,v']/\az K H w v/\az K H w' v':=by
 cases r with
 | cons r1 r2 =>
  cases r2 with
  | cons r3 r4=>cases r4; exact ⟨_,_,rfl,r1,r3⟩
theorem cN {a:Expr}{ta:TAd}{p pos:Pos}(hg:Gl X "range")(hm:X.mg "range" = none)(ha:PAd X [a] ta)(hs:starEach [a] X.env=[(false,eval a X.env)]:=by rfl):PId X tg (.Call (.Name "range" p) [a] [] pos) (rK ta) :=
 afh (vy hg hm ha hs) λ σ H R ⟨τ,M,Rd,A,h,k⟩=>⟨τ,M,_,A,h,λ vs H1 ws M1 kp r m hq50=>by
  obtain ⟨j,e,h1,h2,q⟩:=hq50
  subst e
  obtain ⟨v,e1,r1⟩:=eL r
  simp only [az,ay] at r1
  subst r1
  exact ⟨j,e1,h1,h2,k _ H1 _ M1 kp m (acn 0 j.toNat) q⟩⟩
def yq (di:TId)(g:TGd)(tb:TSd)(D:Ed)(τ:DS)(M:MH):Prop:=di τ M λ ws M1=>∃ P:Nat->DS->MH->Prop,P 0 τ M1 /\
 (∀ i w τ M,ws[i]? = some w->P i τ M->g w τ M λ τ2 M2=>tb { D with nx:=P (i+1),ct:=P (i+1),bk:=D.nx } τ2 M2)/\∀ τ M,P ws.length τ M->D.nx τ M
theorem d5 {iter:Expr}{body:List Stmt}{di:TId}{g:TGd}{tb:TSd}{pos:Pos}(hp:PassesOwn (model X.prog X.w) X.A X.env X.xe)(hc:X.calm=true)(hi:PId X tg iter di)(hg:PGd X tg g)(hb:kG X body tb)
  (hs:∀ x,foldedSetIterable iter X.env x=pure x:=by intro _; rfl):PSd X (.For tg iter body [] pos) (yq di g tb):=tG (adJ hp hc hi hg hb hs) λ D σ H hq51=>by
 obtain ⟨τ,M,Dd,A,h,k1,k2,k3,k4⟩:=hq51
 refine ⟨τ,M,_,A,h,λ J H1 ws M1 kp m1 it hq52=>?_⟩
 obtain ⟨P,p0,pt,pe⟩:=hq52
 refine ⟨λ i n σ H'=>n=ws.length - i/\i<=ws.length/\Kp H1 H'/\∃ τ M,Abs X.K H' σ τ M/\P i τ M,⟨ws.length,by simp,Nat.zero_le _,Kp.refl _,τ,M1,A.go kp m1,p0⟩,?_⟩
 rintro i n σ2 H2 ⟨rfl,hi,kp2,τ2,M2,A2,p2⟩
 obtain ⟨go,stop,yld⟩:=it H2 kp2 i
 by_cases hlt:i < ws.length
 ·refine .inr ⟨go hlt,λ σ3 H3=>Kp H2 H3/\∃ τ M,Abs X.K H3 σ3 τ M/\P (i+1) τ M,λ σ3 H3 ⟨kp3,τ3,M3,A3,p3⟩=>⟨ws.length - (i+1),by omega,rfl,hlt,kp2.trans kp3,τ3,M3,A3,p3⟩,λ x H3 y=>?_⟩
  obtain ⟨kp3,mk,w,ew,rw⟩:=yld x H3 hlt y
  refine ⟨w,τ2,M2,_,rw,A2.go kp3 (mk _ A2.mem),pt i w τ2 M2 ew p2,λ σ4 H4 τ4 M4 kp4 A4 q4=>?_⟩
  have kq:=kp3.trans kp4
  have kr:=(kp.trans kp2).trans kq
  exact ⟨τ4,M4,_,A4,q4,λ σ5 H5 τ5 M5 kp5 A5 q5=>⟨kq.trans kp5,τ5,M5,A5,q5⟩,λ v H5 w M5 kp5=>k2 v H5 w M5 (kr.trans kp5),λ σ5 H5 τ5 M5 kp5=>k1 σ5 H5 τ5 M5 (kr.trans kp5),λ σ5 H5 τ5 M5 kp5 A5 q5=>⟨kq.trans kp5,τ5,M5,A5,q5⟩⟩
 ·have hl:i=ws.length:=by omega
  subst hl
  exact .inl ⟨stop (Nat.le_refl _),k1 σ2 H2 τ2 M2 (kp.trans kp2) A2 (pe τ2 M2 p2)⟩
def abe (k:Nat)(fr:List Nat)(τ:DS):DS:=List.replicate k none++fr.map λ j=>(τ[j]?).getD none
theorem tq {H:Hp}{σ:St}{τ:DS}{M:MH}(A:Abs K H σ τ M)(k:Nat)(fr:List Nat):Abs K H (lcS k fr σ) (abe k fr τ) M:=by
 refine ⟨by simp [lcS,abe],λ i w e=>?_,A.mem⟩
 unfold abe at e
 by_cases hi:i < k
 ·rw [List.getElem?_append_left (by simpa using hi),List.getElem?_replicate] at e
  split at e <;> cases e
 ·rw [List.getElem?_append_right (by simpa using hi),List.getElem?_map,List.length_replicate] at e
  cases q:fr[i - k]? with
  | none=>rw [q] at e; cases e
  | some j =>
   rw [q] at e
   have e':(τ[j]?).getD none=some w:=Option.some.inj e
   have e2:τ[j]? = some (some w):=by
    cases z:τ[j]? with
    | none=>rw [z] at e'; cases e'
    | some o=>rw [z] at e'; exact congrArg some e'
   obtain ⟨v,q1,r⟩:=A.val j w e2
   refine ⟨v,?_,r⟩
   unfold lcS
   rw [List.getElem?_append_right (by simpa using hi),List.getElem?_map,List.length_replicate,q]
   simp [q1]
def dLC (di:TId)(g:TGd)(tt:TTd)(te:TD)(k:Nat)(fr:List Nat)(τ:DS)(M:MH)(Q:QD):Prop:=di τ M λ ws M1=>∃ P:Nat->List PyData->DS->MH->Prop,P 0 [] (abe k fr τ) M1 /\
 (∀ i w acc τ M,ws[i]? = some w->P i acc τ M->acc.length < sizeLine/\g w τ M λ τ2 M2=>tt τ2 M2 λ b M3=>if b=true then te τ2 M3 λ y M4=>∃ d,y=.d d/\P (i+1) (acc++[d]) τ2 M4 else P (i+1) acc τ2 M3) /\
 ∀ acc τ M,P ws.length acc τ M->Q (.d (.list acc)) M
theorem zR {di:TId}{g:TGd}{tt:TTd}{te:TD}{k:Nat}{fr:List Nat}{σ:St}{H:Hp}{Q:VK}(h:up K (dLC di g tt te k fr) σ H Q) :
  agL (tLC (upI K di) (upG K g) (upT K tt) (up K te) k fr) σ H Q:=by
 obtain ⟨τ,M,Qd,A,h,kk⟩:=h
 refine ⟨τ,M,_,A,h,λ J H1 ws M1 kp m1 it hq53=>?_⟩
 obtain ⟨P,p0,pt,pe⟩:=hq53
 refine ⟨λ i n ys σ' H'=>n=ws.length - i/\i<=ws.length/\Kp H1 H'/\∃ acc τ M,bj K H' acc ys/\Abs K H' σ' τ M/\P i acc τ M,⟨ws.length,by simp,Nat.zero_le _,Kp.refl _,[],_,M1,by simp [bj],tq (A.go kp m1) k fr,p0⟩,?_⟩
 rintro i n ys σ2 H2 ⟨rfl,hi,kp2,acc,τ2,M2,ra,A2,p2⟩
 obtain ⟨go,stop,yld⟩:=it H2 kp2 i
 by_cases hlt:i < ws.length
 ·have hlen:=ra.length
  refine .inr ⟨go hlt,?_,λ x H3 y=>?_⟩
  ·obtain ⟨w,hw⟩:∃ w,ws[i]? = some w:=⟨ws[i],by simp [hlt]⟩
   have:=(pt i w acc τ2 M2 hw p2).1
   omega
  obtain ⟨kp3,mk,w,ew,rw⟩:=yld x H3 hlt y
  refine ⟨w,τ2,M2,_,rw,A2.go kp3 (mk _ A2.mem),(pt i w acc τ2 M2 ew p2).2,λ σ4 H4 τ4 M4 kp4 A4 q4=>⟨τ4,M4,_,A4,q4,λ b H5 M5 kp5 m5 q5=>?_⟩⟩
  have kq:=(kp3.trans kp4).trans kp5
  cases b with
  | false =>
   rw [if_neg Bool.false_ne_true] at q5
   show (if false=true then _ else _)
   rw [if_neg Bool.false_ne_true]
   exact ⟨ws.length - (i+1),by omega,rfl,hlt,kp2.trans kq,acc,τ4,M5,ra.keep kq,A4.go kp5 m5,q5⟩
  | true =>
   rw [if_pos rfl] at q5
   show (if true=true then _ else _)
   rw [if_pos rfl]
   refine ⟨τ4,M5,_,A4.go kp5 m5,q5,λ v H6 wv M6 kp6 r6 m6 hq54=>?_⟩
   obtain ⟨d,e6,q6⟩:=hq54
   subst e6
   refine ⟨ws.length - (i+1),by omega,rfl,hlt,kp2.trans (kq.trans kp6),acc++[d],τ4,M6,bj.append (ra.keep (kq.trans kp6)) ?_,A4.go (kp5.trans kp6) m6,q6⟩
   simp only [bj]
   exact ⟨v,[],rfl,r6,rfl⟩
 ·have hl:i=ws.length:=by omega
  subst hl
  exact .inl ⟨stop (Nat.le_refl _),λ p hp=>nY hp ra A2.mem (pe acc τ2 M2 p2) (kgo kk (kp.trans kp2))⟩
section
variable {sc:Scope}{own:List Str}{fr:List Nat}{elt iter:Expr}{ifs:List Expr}{pos:Pos}{di:TId}{g:TGd}{tt:TTd}{te:TD}
abbrev sS (X:Cx)(ifs:List Expr)(t:TTd):Prop:=PTs X ifs (upT X.K t)
def qt (_:DS)(M:MH)(Q:Bool->MH->Prop):Prop:=Q true M
theorem cq:sS X [] qt:=λ pins s σ H Q I ⟨τ,M,Qd,A,q,k⟩=>abi pins s σ H Q I (k true H M (Kp.refl H) A.mem q)
theorem fo {c:Expr}{t:TTd}(h:PTd X c t):sS X [c] t:=aaU h
theorem mN (hc:X.calm=true)(L:mS X sc own fr)(hi:PId X tg iter di)
  (hg:∀ cl C s H ex pl,PGd (blk X sc (lcN X own fr) cl C s H ex pl) tg g)(ht:∀ cl C s H ex pl,sS (blk X sc (lcN X own fr) cl C s H ex pl) ifs tt)(he:∀ cl C s H ex pl,PD (blk X sc (lcN X own fr) cl C s H ex pl) elt te)
  (hs:∀ x,foldedSetIterable iter X.env x=pure x:=by intro _; rfl):PD X (.ListComp elt [⟨tg,iter,ifs,0⟩] sc pos) (dLC di g tt te own.length fr) :=
 eO (sQ (adt hc L hi hg ht he hs)) λ σ H Q h=>zR h
theorem aeZ {st:Stmt}{t:TS}(h:PS X st t):PS X st (λ D σ H=>t { D with nx:=λ σ' H'=>∃ p u,H' p=some u/\Fz u/\∀ o,D.nx σ' (upd H' p (.frz o u)) } σ H):=by
 intro pins s σ H D I hq
 refine thn (h pins s σ H _ I hq) λ f s1 q=>?_
 cases f with
 | next =>
  obtain ⟨σ',H',I',p,u,e,fz,q⟩:=q
  obtain ⟨o,I2⟩:=I'.freeze e fz
  exact ⟨σ',_,I2,q o⟩
 | brk=>exact q
 | cont=>exact q
 | ret v=>exact q
theorem hV {i:Nat}{x:Str}{pos' spos:Pos}(hN:X.N.Nodup)(hi':X.N[i]? = some x)(hx:Loc X.env.scope x)(hc:X.calm=true)(L:mS X sc own fr)(hi:PId X tg iter di)
  (hg:∀ cl C s H ex pl,PGd (blk X sc (lcN X own fr) cl C s H ex pl) tg g)(ht:∀ cl C s H ex pl,sS (blk X sc (lcN X own fr) cl C s H ex pl) ifs tt)(he:∀ cl C s H ex pl,PD (blk X sc (lcN X own fr) cl C s H ex pl) elt te)
  (hsw:swapsWith (.ListComp elt [⟨tg,iter,ifs,0⟩] sc pos) (some (.Name x pos')) spos.line X.env=pure true:=by rfl)
  (hs:∀ x,foldedSetIterable iter X.env x=pure x:=by intro _; rfl)(hf:X.fn x=true\/X.env.scope.names.lookup x=some .local:=by first | exact .inl rfl | exact .inr rfl | assumption) :
  PSd X (.Assign [.Name x pos'] (.ListComp elt [⟨tg,iter,ifs,0⟩] sc pos) spos) (cA (dLC di g tt te own.length fr) (gN i)):=tG (aeZ (sG hN hi' hx hc L hi hg ht he hsw hs hf)) λ D σ H hq55=>by
 obtain ⟨τ,M,Dd,A,h,k1,_⟩:=hq55
 have z:up X.K (dLC di g tt te own.length fr) σ H (λ v H'=>D.nx (σ.set i (some v)) H'):=⟨τ,M,_,A,h,λ v H1 w M1 kp r m q=>k1 _ H1 _ M1 kp ((A.go kp m).set i r) q⟩
 obtain ⟨τ',M',R',A',h',k'⟩:=zR z
 refine ⟨τ',M',R',A',h',λ J H1 ws M1 kp m1 it q=>?_⟩
 obtain ⟨W,w0,st⟩:=k' J H1 ws M1 kp m1 it q
 refine ⟨W,w0,λ i m ys τ H w=>?_⟩
 rcases st i m ys τ H w with ⟨s1,s2⟩ | r
 ·refine .inl ⟨s1,λ p hp=>?_⟩
  obtain ⟨p',u,e1,e2,f,q⟩:=s2 p hp
  cases e1
  exact ⟨p,u,e2,f,q⟩
 ·exact .inr r
end
end
end D
namespace D
open PySem PySem.Spec PyProof.Rows L2
section
variable {X:Cx}{K:PySem.W.Frag}
def aez (ws:List W)(M:MH)(Q:QD):Prop:=∃ i:Int,ws=[.d (.int i)]/\Q (.d (.int (if i < 0 then -i else i))) M
theorem adY:gf K (λ xs H Q=>∃ i,xs=[.int i]/\Q (.int (if i < 0 then -i else i)) H) aez:=by
 intro vs H ws M Qd Q r m ⟨i,e,q⟩ k
 subst e
 obtain ⟨v,e1,r1⟩:=eL r
 simp only [az,ay] at r1
 subst r1
 exact ⟨i,e1,k _ H (.d (.int _)) M (Kp.refl H) (by simp [az,ay]) m q⟩
def xE (M:MH):W->Option Nat
 | .d (.list ds)=>some ds.length
 | .d (.tuple ds)=>some ds.length
 | .d (.str z)=>some z.length
 | .m a=>match M a with
  | some (.lst ws)=>some ws.length
  | _=>none
 | _=>none
def qo (ws:List W)(M:MH)(Q:QD):Prop:=∃ w n,ws=[w]/\xE M w=some n/\yz w=true/\Q (.d (.int (n:Nat))) M
theorem lY:gf K (λ xs H Q=>∃ x n,xs=[x]/\agH K x H n/\Q (.int n) H) qo:=by
 intro vs H ws M Qd Q r m ⟨w,n,e,hn,hf,q⟩ k
 subst e
 obtain ⟨v,e1,r1⟩:=eL r
 refine ⟨v,n,e1,?_,k _ H (.d (.int _)) M (Kp.refl H) (by simp [az,ay]) m q⟩
 cases w with
 | t _=>simp [xE] at hn
 | m a =>
  simp only [az] at r1
  subst r1
  simp only [xE] at hn
  cases hm:M a with
  | none=>rw [hm] at hn; cases hn
  | some mo =>
   rw [hm] at hn
   cases mo with
   | lst l=>cases hn; obtain ⟨us,e2,rw1⟩:=m a _ hm; exact .inl ⟨us,SqL.of e2,rw1.length⟩
   | dic _=>cases hn
   | dct _=>cases hn
   | fdic _=>cases hn
   | ins _ _=>cases hn
   | tup _=>cases hn
   | flst _=>cases hn
   | exc _ _=>cases hn
   | code _ _=>cases hn
 | d d =>
  cases d with
  | list ds=>simp only [xE] at hn; cases hn; simp only [az,ay] at r1; obtain ⟨a,us,e2,hs,ra⟩:=r1; subst e2; exact .inl ⟨us,hs.sq,ra.length.symm⟩
  | tuple ds=>simp only [xE] at hn; cases hn; simp only [az,ay] at r1; obtain ⟨a,us,e2,hs,ra⟩:=r1; subst e2; exact .inr ⟨us,hs,ra.length.symm⟩
  | str z=>simp only [xE] at hn; cases hn; simp only [az,ay] at r1; subst r1; exact ⟨of_decide_eq_true hf,rfl⟩
  | _=>simp [xE] at hn
def aeL (ws:List W)(M:MH)(Q:QD):Prop:=∃ bs:List Bool,ws=[.d (.list (bs.map PyData.bool))]/\Q (.d (.bool (bs.all id))) M
theorem adx:gf K (λ xs H Q=>∃ (x:V) (bs:List Bool),xs=[x]/\ay K H (.list (bs.map PyData.bool)) x/\Q (.bl (bs.all id)) H) aeL:=by
 intro vs H ws M Qd Q r m ⟨bs,e,q⟩ k
 subst e
 obtain ⟨v,e1,r1⟩:=eL r
 exact ⟨v,bs,e1,r1,k _ H (.d (.bool _)) M (Kp.refl H) (by simp [az,ay]) m q⟩
theorem sr {H:Hp}:∀ {ys:List Str} {vs:List V} {us:List Value},bj K H (ys.map PyData.str) vs->Vals vs us->StrsAre us ys
 | [],vs,us,h,r=>by simp only [List.map_nil,bj] at h; subst h; cases r; exact .nil
 | y :: ys,vs,us,h,r=>by
  simp only [List.map_cons,bj] at h
  obtain ⟨v,vr,e,h1,h2⟩:=h
  subst e
  simp only [ay] at h1
  subst h1
  cases r with
  | cons r1 r2 =>
   obtain ⟨t,e⟩:=(show ∃ t,_=Value.str y t from r1)
   subst e
   exact .cons _ _ (sr h2 r2)
def MtD (K:PySem.W.Frag)(r:V->List V->Hp->VK->Prop)(rd:W->List W->MH->QD->Prop):Prop:=∀ x vs H w ws M Qd Q,az K H w x->aJ K H ws vs->cm K H M->rd w ws M Qd->Kont K H Qd Q->r x vs H Q
def dMS (rd:W->List W->MH->QD->Prop)(to:TD)(t:TAd)(τ:DS)(M:MH)(Q:QD):Prop:=to τ M λ w M1=>(∃ z,w=.d (.str z))/\t τ M1 λ ws M2=>rd w ws M2 Q
theorem afn {o e:Expr}{es:List Expr}{to:TD}{t:TAd}{name:Str}{apos cpos:Pos}{id:String}{r:V->List V->Hp->VK->Prop}{rd:W->List W->MH->QD->Prop}(slot:Slot "str" name id)(hty:typeOf (.builtin id)=pure (.type "method_descriptor"))(hm:MtR X id r)(hd:MtD X.K r rd)(ho:PD X o to)(ha:PAd X (e :: es) t)
  (hbase:attributeBase o name X.env (eval o X.env)=eval o X.env:=by rfl)
  (hfew:((backTo cpos (starEach (e :: es) X.env)).all (λ x=>!x.1) && (backToKw cpos (keywordEach [] X.env)).all (λ x=>x.1.isSome)
   && decide ((e :: es).length+([]:List Keyword).length+(if ([]:List Keyword).isEmpty then 0 else 1) < 30))=true:=by rfl)
  (hline:(apos.endLine == cpos.line)=true:=by rfl)(hs:starEach (e :: es) X.env=(false,eval e X.env) :: starEach es X.env:=by rfl)(hplain:(backTo cpos (starEach es X.env)).any (·.1)=false:=by rfl) :
  PD X (.Call (.Attribute o name apos) (e :: es) [] cpos) (dMS rd to t):=eO (xa PySem.F.plainAttrs_str slot hty hm ho ha hbase hfew hline hs hplain) λ σ H Q hq56=>by
 obtain ⟨τ,M,Qd,A,h,k⟩:=hq56
 refine ⟨τ,M,_,A,h,λ x H1 w M1 kp1 r1 m1 hq57=>?_⟩
 obtain ⟨⟨z,ez⟩,q1⟩:=hq57
 subst ez
 have r1':=r1
 simp only [az,ay] at r1'
 subst r1'
 exact ⟨rfl,τ,M1,_,A.go kp1 m1,q1,λ vs H2 ws M2 kp2 r2 m2 q2=>hd _ vs H2 _ ws M2 Qd Q (r1.keep kp2) r2 m2 q2 (kgo k (kp1.trans kp2))⟩
def rJoin (K:PySem.W.Frag):V->List V->Hp->VK->Prop:=λ x vs H Q=>∃ (sep:Str) (v:V) (ys:List Str),x=.str sep/\vs=[v]/\ay K H (.list (ys.map PyData.str)) v/\(ys.map (·.length)).sum+ys.length * sep.length<=16777216/\Q (.str (Txt.join sep ys)) H
theorem aa6:MtR X "str.join" (rJoin X.K):=by
 intro pins s σ H x vs v us Q I rx rv h
 obtain ⟨sep,y,ys,rfl,rfl,rd,hz,q⟩:=h
 obtain ⟨t,rfl⟩:=rx
 obtain ⟨u,rfl,ru⟩:=vals1 rv
 simp only [ay] at rd
 obtain ⟨a,xs,e,hs,ra⟩:=rd
 subst e
 cases (show u=Value.ref a from ru)
 obtain ⟨its,r,pl,hz'⟩:=I.list hs.sq
 exact join_list pl.isList (by simpa using sr ra r) hz λ t' k=>⟨.str _,H,I.tok _,⟨_,rfl⟩,q⟩
def sX (w:W)(ws:List W)(M:MH)(Q:QD):Prop:=∃ (sep:Str) (ys:List Str),w=.d (.str sep)/\ws=[.d (.list (ys.map PyData.str))]/\(ys.map (·.length)).sum+ys.length * sep.length<=16777216/\Q (.d (.str (Txt.join sep ys))) M
theorem abF:MtD K (rJoin K) sX:=by
 intro x vs H w ws M Qd Q r1 r2 m ⟨sep,ys,e1,e2,hz,q⟩ k
 subst e1; subst e2
 obtain ⟨v,e3,r3⟩:=eL r2
 simp only [az,ay] at r1
 exact ⟨sep,v,ys,r1,e3,r3,hz,k _ H (.d (.str _)) M (Kp.refl H) (by simp [az,ay]) m q⟩
theorem qR {o e:Expr}{to te:TD}{apos cpos:Pos}(ho:PD X o to)(ha:PD X e te)
  (hbase:attributeBase o "join" X.env (eval o X.env)=eval o X.env:=by rfl)(hs:starEach [e] X.env=[(false,eval e X.env)]:=by rfl)
  (hfew:((backTo cpos (starEach [e] X.env)).all (λ x=>!x.1) && (backToKw cpos (keywordEach [] X.env)).all (λ x=>x.1.isSome)
   && decide (([e]:List Expr).length+([]:List Keyword).length+(if ([]:List Keyword).isEmpty then 0 else 1) < 30))=true:=by rfl)
  (hline:(apos.endLine == cpos.line)=true:=by rfl) :
  PD X (.Call (.Attribute o "join" apos) [e] [] cpos) (dMS sX to (aj te aP)):=afn PySem.F.slot_str_join PySem.F.type_str_join aa6 abF ho (sA ha ag hs) hbase hfew hline hs
def xU:List (TD×TD)->DS->MH->(List (W×W)->MH->Prop)->Prop
 | [],_,M,Q=>Q [] M
 | (tk,tv) :: r,τ,M,Q=>tk τ M λ x M1=>tv τ M1 λ y M2=>xU r τ M2 λ ps M3=>Q ((x,y) :: ps) M3
theorem pH:∀ {trs:List (TD×TD)} {σ:St} {H:Hp} {τ:DS} {M:MH} {Qd:List (W×W)->MH->Prop} {Q:List (V×V)->Hp->Prop},Abs K H σ τ M->xU trs τ M Qd ->
  (∀ ps H' ws M',Kp H H'->Paired (λ (p:W×W) (q:V×V)=>az K H' p.1 q.1/\az K H' p.2 q.2) ws ps->cm K H' M'->Qd ws M'->Q ps H')->sC (trs.map λ p=>(up K p.1,up K p.2)) σ H Q
 | [],σ,H,τ,M,Qd,Q,A,h,k=>k [] H [] M (Kp.refl H) .nil A.mem h
 | (tk,tv) :: r,σ,H,τ,M,Qd,Q,A,h,k=>by
  show (up K tk) σ H _
  refine ⟨τ,M,_,A,h,λ x H1 w M1 kp1 r1 m1 q1=>⟨τ,M1,_,A.go kp1 m1,q1,λ y H2 w' M2 kp2 r2 m2 q2=>?_⟩⟩
  refine pH (A.go (kp1.trans kp2) m2) q2 λ ps H3 ws M3 kp3 r3 m3 q3=>?_
  exact k _ H3 _ M3 ((kp1.trans kp2).trans kp3) (.cons ⟨r1.keep (kp2.trans kp3),r2.keep kp3⟩ r3) m3 q3
theorem lI:∀ {more kvs:List (Key×V)},((kvs++more).map (·.1)).Nodup->fu kvs more=kvs++more
 | [],kvs,_=>by simp [fu]
 | p :: r,kvs,h=>by
  have hn:nK kvs p.1=none:=by
   cases e:nK kvs p.1 with
   | none=>rfl
   | some v =>
    have q:(kvs.any λ kv=>decide (kv.1=p.1))=true:=by rw [jf,e]; rfl
    obtain ⟨z,hz,ez⟩:=List.any_eq_true.mp q
    rw [List.map_append,List.nodup_append] at h
    exact absurd (of_decide_eq_true ez) (h.2.2 _ (List.mem_map_of_mem hz) _ (by simp))
  show fu (putK kvs p.1 p.2) r=_
  rw [yT _ hn,lI (by simpa using h)]
  simp
theorem wb {H:Hp}{key:Key}{v:V}(r:ay K H (xJ key) v):v=kV key:=by
 cases key <;> (simp only [xJ,ay] at r; exact r)
end
end D
namespace D
open PySem PySem.Spec PyProof.Rows L2
structure Fn (K:PySem.W.Frag)(mg:Str->Option Value)(x:Str)(st:Stmt)(ps:List Str)(f:Addr)(fd:FuncData):Prop where
 fn:Fun K x x st f fd
 mg:mg x=some (.ref f)
 bd:Binds K fd ps []
section
variable {K:PySem.W.Frag}{mg:Str->Option Value}{h:Heap}
theorem abI {x:Str}{st:Stmt}{ps:List Str}{f:Addr}{oc:Value}{od an:Option Addr}{osl:Array (Option Value)}{kV doc pm cdv ct:Value}(X:K.In h)(G:h.Ns mainGlobals mg)(a:PySem.W.nsIn K mainGlobals x=some (some (.ref f)))
  (l:K.lookup f=some ⟨oc,od,.func (PySem.W.fnOf x x (aN st) (aE st) (ai st) .none kV doc pm an cdv ct),osl⟩)(c:PySem.W.codeIn K cdv x=true)(k:PySem.W.keepIn K (.ref f)=true)
  (b:∀ (kV doc pm:Value) (an:Option Addr) (cdv ct:Value) (us:List Value),us.length=ps.length->bindArgs (PySem.W.fnOf x x (aN st) (aE st) (ai st) .none kV doc pm an cdv ct) ⟨us,[]⟩=pure (ps.zip us)) :
  Fn K mg x st ps f (PySem.W.fnOf x x (aN st) (aE st) (ai st) .none kV doc pm an cdv ct) :=
 have F:=yo (st:=st) l c k
 ⟨F,PySem.W.mg_of X G a,F.binds b⟩
end
def ac6 (sc scX:Scope)(N:List Str)(fr:List Nat):Bool :=
 (sc.kind == .function) && sc.names.all (λ y=>!(y.2 == .cell)) && sc.names.all (λ y=>!(y.2 == .free) || scX.names.lookup y.1 == some .cell || scX.names.lookup y.1 == some .free) &&
  sc.names.all (λ y=>!(y.2 == .local) || sc.names.lookup y.1 == some .local) && aen N sc fr
theorem qb {X:Cx}{sc:Scope}{own:List Str}{fr:List Nat}(h:ac6 sc X.env.scope X.N fr=true):mS X sc own fr:=by
 simp only [ac6,Bool.and_eq_true] at h
 obtain ⟨⟨⟨⟨h1,h2⟩,h3⟩,h4⟩,h5⟩:=h
 refine ⟨eq_of_beq h1,λ y hy e=>?_,λ y hy e=>?_,λ y hy e=>?_,h5⟩
 ·have:=List.all_eq_true.mp h2 y hy
  simp [e] at this
 ·have:=List.all_eq_true.mp h3 y hy
  simp only [e,beq_self_eq_true,Bool.not_true,Bool.false_or,Bool.or_eq_true] at this
  rcases this with z | z
  ·exact .inl (eq_of_beq z)
  ·exact .inr (eq_of_beq z)
 ·have:=List.all_eq_true.mp h4 y hy
  simp only [e,beq_self_eq_true,Bool.not_true,Bool.false_or] at this
  exact eq_of_beq this
theorem aej:bootBuiltins "int" = some (.type "int"):=by decide +kernel
theorem acX:bootBuiltins "str" = some (.type "str"):=by decide +kernel
theorem rj:bootBuiltins "bool" = some (.type "bool"):=by decide +kernel
theorem iu:bootBuiltins "list" = some (.type "list"):=by decide +kernel
theorem zc:bootBuiltins "tuple" = some (.type "tuple"):=by decide +kernel
theorem lO:bootBuiltins "len" = some (.builtin "len"):=by decide +kernel
theorem aeR:bootBuiltins "abs" = some (.builtin "abs"):=by decide +kernel
theorem ad3:bootBuiltins "all" = some (.builtin "all"):=by decide +kernel
theorem bF:bootBuiltins "isinstance" = some (.builtin "isinstance"):=by decide +kernel
end D
namespace D
open PySem PySem.Spec PyProof.Rows L2
def df:Expr->Bool
 | .Starred ..=>true
 | _=>false
theorem bK (e:Expr)(es:List Expr)(env:PySem.Env)(h:df e=false):starEach (e :: es) env=(false,eval e env) :: starEach es env:=by
 cases e <;> first | rfl | (exact absurd h (by simp [df]))
theorem cE (pos:Pos)(env:PySem.Env):∀ es:List Expr,(es.all λ e=>!df e)=true->(backTo pos (starEach es env)).any (·.1)=false
 | [],_=>rfl
 | e :: es,h=>by
  rw [List.all_cons,Bool.and_eq_true,Bool.not_eq_true'] at h
  rw [bK e es env h.1]
  show (false || (backTo pos (starEach es env)).any (·.1))=false
  rw [cE pos env es h.2]
  rfl
section
variable {X:Cx}{pos p:Pos}{e:Expr}{es:List Expr}{te:TD}{t:TAd}{x:Str}{id T:String}{r:List V->Hp->VK->Prop}{rd:List W->MH->QD->Prop}{k:Nat}{f:Addr}{fd:FuncData}{ps:List Str}{sp:SpD}
theorem pac (ha:PD X e te)(hr:PAd X es t)(h:df e=false:=by rfl):PAd X (e :: es) (aj te t):=sA ha hr (bK e es X.env h)
theorem pcB (hc:dY X (.builtin id) r)(hd:gf X.K r rd)(hg:Gl X x)(hm:X.mg x=none)(hv:bootBuiltins x=some (.builtin id))(ha:PAd X (e :: es) t)(hn:x ≠ "__name__" := by decide)(hdb:(x == ("__debug__" : Str))=false:=by decide)
  (h1:df e=false:=by rfl)(h2:(es.all λ e=>!df e)=true:=by rfl):PD X (.Call (.Name x p) (e :: es) [] pos) (dCB rd t):=zk hc hd hg hm hv ha hn hdb (bK e es X.env h1) (cE pos X.env es h2)
theorem pcF (F:bV X.prog X.w X.K X.mg X.base CX0 k f fd ps (de X.K sp))(hr:cG k X.A)(hg:Gl X x)(hm:X.mg x=some (.ref f))(hk:PySem.W.keepIn X.K (.ref f)=true)(hb:Binds X.K fd ps [])
  (ha:PAd X (e :: es) t)(hdb:(x == ("__debug__" : Str))=false:=by decide)(h1:df e=false:=by rfl)(h2:(es.all λ e=>!df e)=true:=by rfl) :
  PD X (.Call (.Name x p) (e :: es) [] pos) (bw sp t):=abq F hr hg hm hk hb ha hdb (bK e es X.env h1) (cE pos X.env es h2)
end
end D
namespace D
open PySem PySem.Spec PyProof.Rows L2
structure Jd (p:Prop):Prop where
 h:p
namespace Q
abbrev pm (K:PySem.W.Frag)(p:TD×TD):TE×TE:=(up K p.1,up K p.2)
section
variable {X:Cx}{pos:Pos}{a b c e:Expr}{ta tb tc te:TD}{K:PySem.W.Frag}
theorem dv (i:Nat){x:Str}{pos:Pos}(hN:X.N[i]? = some x:=by rfl)(hv:Vis X.env.scope x:=by first | exact Or.inl rfl | exact Or.inr (Or.inl rfl) | exact Or.inr (Or.inr rfl))(hd:(x == ("__debug__" : Str))=false:=by decide)(hcd:(x == ("__classdict__" : Str))=false:=by decide):Jd (PD X (.Name x pos) (ar i)):=⟨D.dv (i:=i) (hN:=hN) (hv:=hv) (hd:=hd) (hcd:=hcd)⟩
theorem ak {i j pos}:Jd (PD X (.Constant (.int i) j pos) (dC (.d (.int i)))):=⟨D.ak ⟩
theorem jv {b j pos}:Jd (PD X (.Constant (.bool b) j pos) (dC (.d (.bool b)))):=⟨D.jv ⟩
theorem fJ {j pos}:Jd (PD X (.Constant .none j pos) (dC (.d .none))):=⟨D.fJ ⟩
theorem aR {x j pos}:Jd (PD X (.Constant (.str x) j pos) (dC (.d (.str x)))):=⟨D.aR ⟩
theorem fY {x:Str}{i:Int}{t:Tok}{pos:Pos}(hg:Gl X x)(hm:X.mg x=some (.int i t))(hd:(x == ("__debug__" : Str))=false:=by decide):Jd (PD X (.Name x pos) (dC (.d (.int i)))):=⟨D.fY (hg:=hg) (hm:=hm) (hd:=hd)⟩
theorem fk {x:Str}{n:String}{pos:Pos}(hg:Gl X x)(hm:X.mg x=none)(hv:bootBuiltins x=some (.type n))(hn:x ≠ "__name__" := by decide)(hd:(x == ("__debug__" : Str))=false:=by decide):Jd (PD X (.Name x pos) (dC (.t n))):=⟨D.fk (hg:=hg) (hm:=hm) (hv:=hv) (hn:=hn) (hd:=hd)⟩
theorem bB {op:Operator}{r:R2}{rd:W->W->MH->QD->Prop}(ho:OpR X (binaryOp op) r)(hd:OpD X.K r rd)(ha:Jd (PD X a ta))(hb:Jd (PD X b tb)):Jd (PD X (.BinOp a op b pos) (dOp rd ta tb)):=⟨D.bB (ho:=ho) (hd:=hd) (ha:=ha.h) (hb:=hb.h)⟩
theorem iX {op:CmpOp}{r:R2}{rd:W->W->MH->QD->Prop}(ho:OpR X (compareOp op) r)(hd:OpD X.K r rd)(ha:Jd (PD X a ta))(hb:Jd (PD X b tb))(hm:behindInMarks op b=false:=by first | exact ia _ (by decide) (by decide) | rfl):Jd (PD X (.Compare a [op] [b] pos) (dOp rd ta tb)):=⟨D.iX (ho:=ho) (hd:=hd) (ha:=ha.h) (hb:=hb.h) (hm:=hm)⟩
theorem bM {r:R2}{rd:W->W->MH->QD->Prop}(hr:IxR X r)(hd:OpD X.K r rd)(ha:Jd (PD X a ta))(hb:Jd (PD X b tb))(hs:rf b:=by intro _ _; rfl):Jd (PD X (.Subscript a b pos) (dOp rd ta tb)):=⟨D.bM (hr:=hr) (hd:=hd) (ha:=ha.h) (hb:=hb.h) (hs:=hs)⟩
theorem bo {op:CmpOp}{r:R2}{rd:W->W->MH->QD->Prop}(ho:OpR X (compareOp op) r)(hd:OpD X.K r rd)(ha:Jd (PD X a ta))(hb:Jd (PD X b tb))(hm:behindInMarks op b=false:=by first | exact ia _ (by decide) (by decide) | rfl):Jd (PTd X (.Compare a [op] [b] pos) (bf (dOp rd ta tb))):=⟨D.bo (ho:=ho) (hd:=hd) (ha:=ha.h) (hb:=hb.h) (hm:=hm)⟩
theorem cR (h:Jd (PD X e te))(he:∀ whole,isTrue e X.env whole=(do let v <- whole; standAt e.pos; holding [v] (truthy v)):=by intro _; rfl):Jd (PTd X e (bf te)):=⟨D.cR (h:=h.h) (he:=he)⟩
theorem jh {op op':CmpOp}{r r':R2}{rd rd':W->W->MH->QD->Prop}(ho:OpR X (compareOp op) r)(hd:OpD X.K r rd)(ho':OpR X (compareOp op') r')(hd':OpD X.K r' rd')(ha:Jd (PD X a ta))(hb:Jd (PD X b tb))(hc:Jd (PD X c tc))(hm:lastMarks [op,op'] [b,c]=false:=by with_unfolding_all rfl):Jd (PD X (.Compare a [op,op'] [b,c] pos) (iV rd rd' ta tb tc)):=⟨D.jh (ho:=ho) (hd:=hd) (ho':=ho') (hd':=hd') (ha:=ha.h) (hb:=hb.h) (hc:=hc.h) (hm:=hm)⟩
theorem kB {op op':CmpOp}{r r':R2}{rd rd':W->W->MH->QD->Prop}(ho:OpR X (compareOp op) r)(hd:OpD X.K r rd)(ho':OpR X (compareOp op') r')(hd':OpD X.K r' rd')(ha:Jd (PD X a ta))(hb:Jd (PD X b tb))(hc:Jd (PD X c tc))(hm:lastMarks [op,op'] [b,c]=false:=by with_unfolding_all rfl):Jd (PTd X (.Compare a [op,op'] [b,c] pos) (bf (iV rd rd' ta tb tc))):=⟨D.kB (ho:=ho) (hd:=hd) (ho':=ho') (hd':=hd') (ha:=ha.h) (hb:=hb.h) (hc:=hc.h) (hm:=hm)⟩
theorem zl {op:UnaryOp}{r:V->Hp->VK->Prop}{rd:W->MH->QD->Prop}(ho:UnR X (unaryOp op) r)(hd:UnD X.K r rd)(ha:Jd (PD X a ta)):Jd (PD X (.UnaryOp op a pos) (dUn rd ta)):=⟨D.zl (ho:=ho) (hd:=hd) (ha:=ha.h)⟩
variable {tA tB:TTd}{rest:List Expr}
theorem nA (ha:Jd (PTd X a tA)):Jd (PWd X (.BoolOp .And [a] pos) tA):=⟨D.nA (ha:=ha.h)⟩
theorem gC (ha:Jd (PTd X a tA)):Jd (PWd X (.BoolOp .Or [a] pos) tA):=⟨D.gC (ha:=ha.h)⟩
theorem mL (ha:Jd (PTd X a tA))(hb:Jd (PWd X (.BoolOp .And (b :: rest) pos) tB)):Jd (PWd X (.BoolOp .And (a :: b :: rest) pos) (afb tA tB)):=⟨D.mL (ha:=ha.h) (hb:=hb.h)⟩
theorem i4 (ha:Jd (PTd X a tA))(hb:Jd (PWd X (.BoolOp .Or (b :: rest) pos) tB)):Jd (PWd X (.BoolOp .Or (a :: b :: rest) pos) (dOr tA tB)):=⟨D.i4 (ha:=ha.h) (hb:=hb.h)⟩
theorem pW (h:Jd (PWd X e tA)):Jd (PTd X e tA):=⟨D.pW (h:=h.h)⟩
theorem cO (ha:Jd (PTd X a tA)):Jd (PTd X (.UnaryOp .Not a pos) (uT tA)):=⟨D.cO (ha:=ha.h)⟩
theorem lK {op}(h:Jd (PD X a ta)):Jd (PD X (.BoolOp op [a] pos) ta):=⟨D.lK (h:=h.h)⟩
theorem iL (ha:Jd (PD X a ta))(hb:Jd (PD X (.BoolOp .And (b :: rest) pos) tb)):Jd (PD X (.BoolOp .And (a :: b :: rest) pos) (om ta tb)):=⟨D.iL (ha:=ha.h) (hb:=hb.h)⟩
theorem tP (ha:Jd (PD X a ta)):Jd (PD X (.UnaryOp .Not a pos) (yE ta)):=⟨D.tP (ha:=ha.h)⟩
variable {es:List Expr}{t:TAd}
theorem ag  : Jd (PAd X [] aP):=⟨D.ag ⟩
theorem gK (h:Jd (PAd X es t)):Jd (PD X (.List es pos) (zM t)):=⟨D.gK (h:=h.h)⟩
theorem d6 (h:Jd (PAd X es t)):Jd (PD X (.List es pos) (kZ t)):=⟨D.d6 (h:=h.h)⟩
theorem er {x1}(h:Jd (PAd X es t)):Jd (PD X (.Tuple es x1 pos) (uB t)):=⟨D.er (h:=h.h)⟩
variable {x:Str}{p:Pos}{id T:String}{r:List V->Hp->VK->Prop}{rd:List W->MH->QD->Prop}
end
section
variable {X:Cx}{pos:Pos}{st:Stmt}{sts:List Stmt}{t u:TSd}{e:Expr}{te:TD}{K:PySem.W.Frag}
theorem aH  : Jd (kG X [] cB):=⟨D.aH ⟩
theorem ae (h1:Jd (PSd X st t))(h2:Jd (kG X sts u)):Jd (kG X (st :: sts) (bh t u)):=⟨D.ae (h1:=h1.h) (h2:=h2.h)⟩
theorem aq (h1:Jd (PSd X st t)):Jd (kG X [st] t):=⟨D.aq (h1:=h1.h)⟩
theorem cw (he:Jd (PD X e te))(hs:swapsWith e none pos.line X.env=pure false:=by rfl):Jd (PSd X (.Expr e pos) (iC te)):=⟨D.cw (he:=he.h) (hs:=hs)⟩
theorem aD (he:Jd (PD X e te)):Jd (PSd X (.Return (some e) pos) (dN te)):=⟨D.aD (he:=he.h)⟩
theorem bD {c:Expr}{a b:List Stmt}{tc:TTd}(hc:Jd (PTd X c tc))(ha:Jd (kG X a t))(hb:Jd (kG X b u)):Jd (PSd X (.If c a b pos) (dIf tc t u)):=⟨D.bD (hc:=hc.h) (ha:=ha.h) (hb:=hb.h)⟩
theorem aB {i:Nat}{x:Str}(hN:X.N.Nodup)(hi:X.N[i]? = some x)(hx:Loc X.env.scope x)(hf:X.fn x=true\/X.env.scope.names.lookup x=some .local:=by first | exact .inl rfl | exact .inr rfl | assumption):Jd (PGd X (.Name x pos) (gN i)):=⟨D.aB (hN:=hN) (hi:=hi) (hx:=hx) (hf:=hf)⟩
theorem gv {tg:Expr}{g:TGd}(he:Jd (PD X e te))(hg:Jd (PGd X tg g))(hs:swapsWithSole [tg] e pos.line X.env=pure false:=by rfl)(hw:swappedStores [tg] e X.env=pure none:=by rfl)(h1:(assignEach [tg] X.env).map (·.2)=[assign tg X.env]:=by rfl):Jd (PSd X (.Assign [tg] e pos) (cA te g)):=⟨D.gv (he:=he.h) (hg:=hg.h) (hs:=hs) (hw:=hw) (h1:=h1)⟩
theorem aC {i:Nat}{x:Str}{pos':Pos}(hN:X.N.Nodup)(hi:X.N[i]? = some x)(hx:Loc X.env.scope x)(he:Jd (PD X e te))(hs:swapsWith e (some (.Name x pos')) pos.line X.env=pure false:=by rfl)(hf:X.fn x=true\/X.env.scope.names.lookup x=some .local:=by first | exact .inl rfl | exact .inr rfl | assumption):Jd (PSd X (.Assign [.Name x pos'] e pos) (cA te (gN i))):=⟨D.aC (hN:=hN) (hi:=hi) (hx:=hx) (he:=he.h) (hs:=hs) (hf:=hf)⟩
end
section
variable {X:Cx}{pos p:Pos}{k:Nat}{f:Addr}{fd:FuncData}{ps:List Str}{sp:SpD}{x:Str}{e:Expr}{es:List Expr}{t:TAd}
end
section
variable {P:Program}{w:World}{K:PySem.W.Frag}{mg:Str->Option Value}{base:Heap}
end
section
variable {X:Cx}{K:PySem.W.Frag}
theorem dt  : Jd (POd X none eS):=⟨D.dt ⟩
theorem dj {e:Expr}{te:TD}(h:Jd (PD X e te)):Jd (POd X (some e) (nH te)):=⟨D.dj (h:=h.h)⟩
theorem dX {e:Expr}{te:TD}{lo hi:Option Expr}{tl th:TOd}{pos p2:Pos}(he:Jd (PD X e te))(hl:Jd (POd X lo tl))(hu:Jd (POd X hi th)):Jd (PD X (.Subscript e (.Slice lo hi none p2) pos) (dSl te tl th)):=⟨D.dX (he:=he.h) (hl:=hl.h) (hu:=hu.h)⟩
theorem iF {o i:Expr}{to ti:TD}{pos:Pos}(ho:Jd (PD X o to))(hi:Jd (PD X i ti))(ha:∀ v,assign (.Subscript o i pos) X.env v=(do
   let ov <- holding [v] (eval o X.env)
   let iv <- holding [v,ov] (eval i X.env)
   standAt pos
   holding [v,ov,iv] (setItem ov iv v)
   release [v,ov,iv] []):=by intro _; rfl):Jd (PGd X (.Subscript o i pos) (yv to ti)):=⟨D.iF (ho:=ho.h) (hi:=hi.h) (ha:=ha)⟩
theorem mR {o i e:Expr}{to ti te:TD}{op:Operator}{f:Int->Int->Int}{pos tpos:Pos}(ho:Jd (PD X o to))(hi:Jd (PD X i ti))(he:Jd (PD X e te))(hp:PIp X op (ipI f))(ha:∀ ov iv new,augStore i ov iv new=(do holding [new,ov,iv] (setItem ov iv new); release [new,ov,iv] []; pure .next):=by intros; rfl):Jd (PSd X (.AugAssign (.Subscript o i tpos) op e pos) (zx to ti te f)):=⟨D.mR (ho:=ho.h) (hi:=hi.h) (he:=he.h) (hp:=hp) (ha:=ha)⟩
end
section
variable {X:Cx}{K:PySem.W.Frag}{tg:Expr}
section
variable {pins:List (Addr×Obj)}{σ:St}{H:Hp}{s:Shared}{R:It->Hp->Prop}{E:Value->Shared->Prop}
end
theorem aY {l:Expr}{te:TD}(h:Jd (PD X l te)):Jd (PId X tg l (cK te)):=⟨D.aY (h:=h.h)⟩
theorem cN {a:Expr}{ta:TAd}{p pos:Pos}(hg:Gl X "range")(hm:X.mg "range" = none)(ha:Jd (PAd X [a] ta))(hs:starEach [a] X.env=[(false,eval a X.env)]:=by rfl):Jd (PId X tg (.Call (.Name "range" p) [a] [] pos) (rK ta)):=⟨D.cN (hg:=hg) (hm:=hm) (ha:=ha.h) (hs:=hs)⟩
theorem d5 {iter:Expr}{body:List Stmt}{di:TId}{g:TGd}{tb:TSd}{pos:Pos}(hp:PassesOwn (model X.prog X.w) X.A X.env X.xe)(hc:X.calm=true)(hi:Jd (PId X tg iter di))(hg:Jd (PGd X tg g))(hb:Jd (kG X body tb))(hs:∀ x,foldedSetIterable iter X.env x=pure x:=by intro _; rfl):Jd (PSd X (.For tg iter body [] pos) (yq di g tb)):=⟨D.d5 (hp:=hp) (hc:=hc) (hi:=hi.h) (hg:=hg.h) (hb:=hb.h) (hs:=hs)⟩
section
variable {sc:Scope}{own:List Str}{fr:List Nat}{elt iter:Expr}{ifs:List Expr}{pos:Pos}{di:TId}{g:TGd}{tt:TTd}{te:TD}
theorem cq  : Jd (sS X [] qt):=⟨D.cq ⟩
theorem fo {c:Expr}{t:TTd}(h:Jd (PTd X c t)):Jd (sS X [c] t):=⟨D.fo (h:=h.h)⟩
theorem mN (hc:X.calm=true)(L:mS X sc own fr)(hi:Jd (PId X tg iter di))(hg:∀ cl C s H ex pl,Jd (PGd (blk X sc (lcN X own fr) cl C s H ex pl) tg g))(ht:∀ cl C s H ex pl,Jd (sS (blk X sc (lcN X own fr) cl C s H ex pl) ifs tt))(he:∀ cl C s H ex pl,Jd (PD (blk X sc (lcN X own fr) cl C s H ex pl) elt te))(hs:∀ x,foldedSetIterable iter X.env x=pure x:=by intro _; rfl):Jd (PD X (.ListComp elt [⟨tg,iter,ifs,0⟩] sc pos) (dLC di g tt te own.length fr)):=⟨D.mN (hc:=hc) (L:=L) (hi:=hi.h) (hg:=λ cl C s H ex pl=>(hg cl C s H ex pl).h) (ht:=λ cl C s H ex pl=>(ht cl C s H ex pl).h) (he:=λ cl C s H ex pl=>(he cl C s H ex pl).h) (hs:=hs)⟩
theorem hV {i:Nat}{x:Str}{pos' spos:Pos}(hN:X.N.Nodup)(hi':X.N[i]? = some x)(hx:Loc X.env.scope x)(hc:X.calm=true)(L:mS X sc own fr)(hi:Jd (PId X tg iter di))(hg:∀ cl C s H ex pl,Jd (PGd (blk X sc (lcN X own fr) cl C s H ex pl) tg g))(ht:∀ cl C s H ex pl,Jd (sS (blk X sc (lcN X own fr) cl C s H ex pl) ifs tt))(he:∀ cl C s H ex pl,Jd (PD (blk X sc (lcN X own fr) cl C s H ex pl) elt te))(hsw:swapsWith (.ListComp elt [⟨tg,iter,ifs,0⟩] sc pos) (some (.Name x pos')) spos.line X.env=pure true:=by rfl)(hs:∀ x,foldedSetIterable iter X.env x=pure x:=by intro _; rfl)(hf:X.fn x=true\/X.env.scope.names.lookup x=some .local:=by first | exact .inl rfl | exact .inr rfl | assumption):Jd (PSd X (.Assign [.Name x pos'] (.ListComp elt [⟨tg,iter,ifs,0⟩] sc pos) spos) (cA (dLC di g tt te own.length fr) (gN i))):=⟨D.hV (hN:=hN) (hi':=hi') (hx:=hx) (hc:=hc) (L:=L) (hi:=hi.h) (hg:=λ cl C s H ex pl=>(hg cl C s H ex pl).h) (ht:=λ cl C s H ex pl=>(ht cl C s H ex pl).h) (he:=λ cl C s H ex pl=>(he cl C s H ex pl).h) (hsw:=hsw) (hs:=hs) (hf:=hf)⟩
end
end
section
variable {X:Cx}{K:PySem.W.Frag}
theorem qR {o e:Expr}{to te:TD}{apos cpos:Pos}(ho:Jd (PD X o to))(ha:Jd (PD X e te))(hbase:attributeBase o "join" X.env (eval o X.env)=eval o X.env:=by rfl)(hs:starEach [e] X.env=[(false,eval e X.env)]:=by rfl)(hfew:((backTo cpos (starEach [e] X.env)).all (λ x=>!x.1) && (backToKw cpos (keywordEach [] X.env)).all (λ x=>x.1.isSome)
   && decide (([e]:List Expr).length+([]:List Keyword).length+(if ([]:List Keyword).isEmpty then 0 else 1) < 30))=true:=by rfl)(hline:(apos.endLine == cpos.line)=true:=by rfl):Jd (PD X (.Call (.Attribute o "join" apos) [e] [] cpos) (dMS sX to (aj te aP))):=⟨D.qR (ho:=ho.h) (ha:=ha.h) (hbase:=hbase) (hs:=hs) (hfew:=hfew) (hline:=hline)⟩
end
section
variable {X:Cx}{pos p:Pos}{e:Expr}{es:List Expr}{te:TD}{t:TAd}{x:Str}{id T:String}{r:List V->Hp->VK->Prop}{rd:List W->MH->QD->Prop}{k:Nat}{f:Addr}{fd:FuncData}{ps:List Str}{sp:SpD}
theorem pac (ha:Jd (PD X e te))(hr:Jd (PAd X es t))(h:df e=false:=by rfl):Jd (PAd X (e :: es) (aj te t)):=⟨D.pac (ha:=ha.h) (hr:=hr.h) (h:=h)⟩
theorem pcB (hc:dY X (.builtin id) r)(hd:gf X.K r rd)(hg:Gl X x)(hm:X.mg x=none)(hv:bootBuiltins x=some (.builtin id))(ha:Jd (PAd X (e :: es) t))(hn:x ≠ "__name__" := by decide)(hdb:(x == ("__debug__" : Str))=false:=by decide)(h1:df e=false:=by rfl)(h2:(es.all λ e=>!df e)=true:=by rfl):Jd (PD X (.Call (.Name x p) (e :: es) [] pos) (dCB rd t)):=⟨D.pcB (hc:=hc) (hd:=hd) (hg:=hg) (hm:=hm) (hv:=hv) (ha:=ha.h) (hn:=hn) (hdb:=hdb) (h1:=h1) (h2:=h2)⟩
theorem pcF (F:bV X.prog X.w X.K X.mg X.base CX0 k f fd ps (de X.K sp))(hr:cG k X.A)(hg:Gl X x)(hm:X.mg x=some (.ref f))(hk:PySem.W.keepIn X.K (.ref f)=true)(hb:Binds X.K fd ps [])(ha:Jd (PAd X (e :: es) t))(hdb:(x == ("__debug__" : Str))=false:=by decide)(h1:df e=false:=by rfl)(h2:(es.all λ e=>!df e)=true:=by rfl):Jd (PD X (.Call (.Name x p) (e :: es) [] pos) (bw sp t)):=⟨D.pcF (F:=F) (hr:=hr) (hg:=hg) (hm:=hm) (hk:=hk) (hb:=hb) (ha:=ha.h) (hdb:=hdb) (h1:=h1) (h2:=h2)⟩
end
theorem nE {X:Cx}{pos:Pos}:Jd (PPs X pos [] [] (([]:List (TD×TD)).map (pm X.K))):=⟨L2.nE⟩
theorem dh {X:Cx}{pos:Pos}{k v:Expr}{ks:List (Option Expr)}{vs:List Expr}{tk tv:TD}{trs:List (TD×TD)}(hk:Jd (PD X k tk))(hv:Jd (PD X v tv))(hr:Jd (PPs X pos ks vs (trs.map (pm X.K)))):Jd (PPs X pos (some k :: ks) (v :: vs) (((tk,tv) :: trs).map (pm X.K))):=⟨L2.dh hk.h hv.h hr.h⟩
end Q
end D
namespace D
open PySem PySem.Spec PyProof.Rows L2
section
variable {κ α:Type}[DecidableEq κ]
def fq (t:List (κ×α))(k:κ):Option α:=(t.find? λ p=>decide (p.1=k)).map (·.2)
def p9 (t:List (κ×α))(k:κ)(v:α):List (κ×α):=if (t.any λ p=>decide (p.1=k))=true then t.map (λ p=>if p.1=k then (p.1,v) else p) else t++[(k,v)]
def OR {β γ:Type}(R:β->γ->Prop):Option β->Option γ->Prop
 | some a,some b=>R a b
 | none,none=>True
 | _,_=>False
theorem OR.some_of {β γ:Type}{R:β->γ->Prop}{a:β}{o:Option γ}(h:OR R (some a) o):∃ b,o=some b/\R a b:=by
 cases o with
 | none=>exact h.elim
 | some b=>exact ⟨b,rfl,h⟩
theorem OR.none_of {β γ:Type}{R:β->γ->Prop}{o:Option γ}(h:OR R none o):o=none:=by
 cases o with
 | none=>rfl
 | some b=>exact h.elim
theorem OR.isSome {β γ:Type}{R:β->γ->Prop}:∀ {a:Option β} {o:Option γ},OR R a o->a.isSome=o.isSome
 | some _,some _,_=>rfl
 | none,none,_=>rfl
 | some _,none,h=>h.elim
 | none,some _,h=>h.elim
theorem kd {R:α->V->Prop}(k:κ):∀ {t:List (κ×α)} {l:List (κ×V)},Paired (λ p q=>p.1=q.1/\R p.2 q.2) t l->OR R (fq t k) (nK l k)
 | _,_,.nil=>True.intro
 | _,_,.cons (a:=p) (b:=q) (l₁:=t1) h t=>by
  obtain ⟨h1,h2⟩:=h
  by_cases e:p.1=k
  ·rw [jk (h1.symm.trans e),show fq (p :: t1) k=some p.2 by simp [fq,List.find?_cons,e]]
   exact h2
  ·rw [jc (λ z=>e (h1.trans z)),show fq (p :: t1) k=fq t1 k by simp [fq,List.find?_cons,e]]
   exact kd k t
theorem aaO {R:α->V->Prop}(k:κ):∀ {t:List (κ×α)} {l:List (κ×V)},Paired (λ p q=>p.1=q.1/\R p.2 q.2) t l->(t.any λ p=>decide (p.1=k))=(l.any λ p=>decide (p.1=k))
 | _,_,.nil=>rfl
 | _,_,.cons (a:=p) (b:=q) h t=>by
  simp only [List.any_cons]
  rw [aaO k t,h.1]
theorem aan {R:α->V->Prop}(k:κ){a:α}{v:V}(r:R a v):∀ {t:List (κ×α)} {l:List (κ×V)},Paired (λ p q=>p.1=q.1/\R p.2 q.2) t l ->
  Paired (λ p q=>p.1=q.1/\R p.2 q.2) (t.map λ p=>if p.1=k then (p.1,a) else p) (l.map λ p=>if p.1=k then (p.1,v) else p)
 | _,_,.nil=>.nil
 | _,_,.cons (a:=p) (b:=q) h t=>by
  simp only [List.map_cons]
  refine .cons ?_ (aan k r t)
  by_cases e:p.1=k
  ·rw [if_pos e,if_pos (h.1.symm.trans e)]
   exact ⟨h.1,r⟩
  ·rw [if_neg e,if_neg (λ z=>e (h.1.trans z))]
   exact h
theorem vb {P:κ×α->κ×V->Prop}{p:κ×α}{q:κ×V}(r:P p q):∀ {t:List (κ×α)} {l:List (κ×V)},Paired P t l->Paired P (t++[p]) (l++[q])
 | _,_,.nil=>.cons r .nil
 | _,_,.cons h t=>.cons h (vb r t)
theorem sF {R:α->V->Prop}(k:κ){a:α}{v:V}(r:R a v){t:List (κ×α)}{l:List (κ×V)}(h:Paired (λ p q=>p.1=q.1/\R p.2 q.2) t l) :
  Paired (λ p q=>p.1=q.1/\R p.2 q.2) (p9 t k a) (putK l k v):=by
 unfold p9 putK
 rw [aaO k h]
 split
 ·exact aan k r h
 ·exact vb ⟨rfl,r⟩ h
theorem jq {P:κ×α->κ×V->Prop}:∀ {t:List (κ×α)} {l:List (κ×V)},Paired P t l->t.length=l.length
 | _,_,.nil=>rfl
 | _,_,.cons _ t=>by simp [jq t]
theorem j5 {p:κ×α}{t:List (κ×α)}{k:κ}:fq (p :: t) k=if p.1=k then some p.2 else fq t k:=by
 by_cases e:p.1=k <;> simp [fq,List.find?_cons,e]
theorem sk (k:κ):∀ t:List (κ×α),(t.any λ p=>decide (p.1=k))=(fq t k).isSome
 | []=>rfl
 | p :: t=>by
  rw [List.any_cons,sk k t,j5]
  by_cases e:p.1=k <;> simp [e]
end
def kW (k:Key):W:=.d (xJ k)
theorem hZ {K:PySem.W.Frag}{H:Hp}{k:Key}{v:V}(r:az K H (kW k) v):v=kV k:=wb r
def tkW (ks:List Key):W:=.d (.tuple (ks.map xJ))
theorem ad5 {K:PySem.W.Frag}{H:Hp}:∀ {ks:List Key} {vs:List V},bj K H (ks.map xJ) vs->vs=ks.map kV
 | [],vs,h=>by simpa [bj] using h
 | k :: ks,vs,h=>by
  simp only [List.map_cons,bj] at h
  obtain ⟨v,r,e,h1,h2⟩:=h
  rw [e,wb h1,ad5 h2]
  rfl
def Rd2 (H:Hp)(a:Addr)(u:HO):Prop:=Rd H a u\/∃ o,H a=some (.frz o (.frz o u))
theorem tT {P:Program}{w:World}{H:Hp}{h:Heap}{a:Addr}{kvs:List (Key×V)}(ok:HOk P w H h)(e:Rd2 H a (.dK kvs)):kvs.length<=sizeLine/\(a == sysModules)=false/\∃ vs,KV kvs vs/\h.DictOf (aX P w) a vs:=by
 rcases e with e | ⟨o,e⟩
 ·exact vW ok e
 ·exact (ok a _ e).2.2
def qX (K:PySem.W.Frag)(H:Hp)(a:Addr)(y:V)(r:Option V):Prop :=
 (∃ kvs k,Rd2 H a (.dK kvs)/\y=kV k/\r=nK kvs k)\/∃ kvs k b,Rd H a (.dT kvs)/\y=.ref b/\SqT K H b (k.map kV)/\r=nK kvs k
theorem xt {X:Cx}{pins:List (Addr×Obj)}{σ:St}{H:Hp}{s:Shared}{b:Addr}{ks:List Key}(I:Inv X pins σ H s)(h:SqT X.K H b (ks.map kV)):(tupleKind (aX X.prog X.w)).is s.heap ks b:=by
 obtain ⟨its,r,⟨o,h1,h2,n,h3⟩,_⟩:=I.tuple h
 exact ⟨o,its.toArray,n,h1,h2,h3,by simpa using ko r⟩
section
variable {X:Cx}{pins:List (Addr×Obj)}{σ:St}{H:Hp}{s:Shared}{a:Addr}{y d:V}{u r:Value}{o:Option V}{A:Around}{E:Value->Shared->Prop}
theorem afs {Q:Value->Shared->Prop}(hu:A.units+1 < cLine)(I:Inv X pins σ H s)(g:qX X.K H a y o)(ry:RelV y u)(h:∀ s',Inv X pins σ H s'->Q (.bool o.isSome) s') :
  wpAny (model X.prog X.w) A (compareOp .In u (.ref a)) Q E s:=by
 rcases g with ⟨kvs,k,e,ey,l⟩ | ⟨kvs,k,b,e,ey,eb,l⟩
 ·subst ey
  obtain ⟨z,hd,vs,rel,dd⟩:=tT I.hok e
  refine wpAny_in_of (oJ ry) hd dd.mapOf ?_
  rw [<- (rel.val k).fT,<- l]
  exact h _ (I.tok _)
 ·subst ey
  cases (show u=Value.ref b from ry)
  obtain ⟨z,hd,xs,rel,dd⟩:=wA I.hok e
  refine wpAny_in_heap (tupleKind_room_in1 hu) (xt I eb) hd dd ?_
  have q:=(rel.val k).fT
  rw [Option.isSome_map] at q
  rw [<- q,<- l]
  exact h _ (I.tok _)
theorem yO {Q:Value->Shared->Prop}(hu:A.units+1 < cLine)(I:Inv X pins σ H s)(g:qX X.K H a y o)(ry:RelV y u)(h:∀ s',Inv X pins σ H s'->Q (.bool (!o.isSome)) s') :
  wpAny (model X.prog X.w) A (compareOp .NotIn u (.ref a)) Q E s:=by
 rcases g with ⟨kvs,k,e,ey,l⟩ | ⟨kvs,k,b,e,ey,eb,l⟩
 ·subst ey
  obtain ⟨z,hd,vs,rel,dd⟩:=tT I.hok e
  refine wpAny_notIn_of (oJ ry) hd dd.mapOf ?_
  rw [<- (rel.val k).fT,<- l]
  exact h _ (I.tok _)
 ·subst ey
  cases (show u=Value.ref b from ry)
  obtain ⟨z,hd,xs,rel,dd⟩:=wA I.hok e
  refine wpAny_notIn_heap (tupleKind_room_in1 hu) (xt I eb) hd dd ?_
  have q:=(rel.val k).fT
  rw [Option.isSome_map] at q
  rw [<- q,<- l]
  exact h _ (I.tok _)
theorem abu {Q:Value->Shared->Prop}(hu:A.units+1 < cLine)(I:Inv X pins σ H s)(g:qX X.K H a y o)(ry:RelV y u)(rd:RelV d r)(h:∀ w' s',Inv X pins σ H s'->RelV (o.getD d) w'->Q w' s') :
  wpAny (model X.prog X.w) A (call (.builtin "dict.get") [.ref a,u,r]) Q E s:=by
 rcases g with ⟨kvs,k,e,ey,l⟩ | ⟨kvs,k,b,e,ey,eb,l⟩
 ·subst ey
  obtain ⟨z,hd,vs,rel,dd⟩:=tT I.hok e
  refine call_meetsIn PySem.F.slot_dict_get dd.typeIs PySem.F.entry_dict_get (PySem.F.args_dict_get_3 _ _ _) (meets_dict_get_default (aX X.prog X.w) a (oJ ry) hd r) ⟨_,dd.mapOf,h _ _ (I.tok _) ?_⟩
  rw [l]
  exact (rel.val k).getD rd
 ·subst ey
  cases (show u=Value.ref b from ry)
  obtain ⟨z,hd,xs,rel,dd⟩:=wA I.hok e
  refine call_meetsIn PySem.F.slot_dict_get dd.typeIs PySem.F.entry_dict_get (PySem.F.args_dict_get_3 _ _ _) (meetsH_dict_get_default (tupleKind (aX X.prog X.w)) a b hd r) ⟨tupleKind_room_in1 hu,k,xs,xt I eb,dd,h _ _ (I.tok _) ?_⟩
  rw [l]
  exact (rel.val k).getD rd
theorem lr {v:V}{Q:Value->Shared->Prop}(hu:A.units+1 < cLine)(I:Inv X pins σ H s){kvs:List (Key×V)}{k:Key}(e:Rd2 H a (.dK kvs))(l:nK kvs k=some v)(ry:RelV (kV k) u)(h:∀ w' s',Inv X pins σ H s'->RelV v w'->Q w' s') :
  s.TypeIs (.ref a) "dict" /\ wpAny (model X.prog X.w) A (getItem (.ref a) u) Q E s:=by
 obtain ⟨z,hd,vs,rel,dd⟩:=tT I.hok e
 obtain ⟨w',hw,rw'⟩:=nk.some_of (v:=v) (o:=valueAt vs k) (by rw [<- l]; exact rel.val k)
 exact ⟨dd.typeIs,wpAny_getItem_of (oJ ry) dd.mapOf hw (h w' _ (I.tok _) rw')⟩
end
end D
namespace D
open PySem PySem.Spec PyProof.Rows L2
inductive mM (M:MH):W->W->Option W->Prop
 | k {a:Addr} {kvs:List (Key×W)} {k:Key} (h:M a=some (.dic kvs)):mM M (.m a) (kW k) (fq kvs k)
 | t {a:Addr} {kvs:List (List Key×W)} {ks:List Key} (h:M a=some (.dct kvs)):mM M (.m a) (tkW ks) (fq kvs ks)
 | f {a:Addr} {kvs:List (Key×W)} {k:Key} (h:M a=some (.fdic kvs)):mM M (.m a) (kW k) (fq kvs k)
 | d {kvs:List (Key×PyData)} {k:Key}:mM M (.d (.dict (kvs.map λ p=>(xJ p.1,p.2)))) (kW k) ((fq kvs k).map W.d)
inductive DIs (M:MH):W->Prop
 | k {a:Addr} {kvs:List (Key×W)} (h:M a=some (.dic kvs)):DIs M (.m a)
 | t {a:Addr} {kvs:List (List Key×W)} (h:M a=some (.dct kvs)):DIs M (.m a)
 | d {kvs:List (PyData×PyData)}:DIs M (.d (.dict kvs))
theorem yV {a b:Key}(h:xJ a=xJ b):a=b:=by
 cases a <;> cases b <;> simp [xJ] at h <;> rw [h]
theorem kA {K:PySem.W.Frag}{H:Hp}:∀ {kvs:List (Key×PyData)} {l:List (Key×V)},nv K H (kvs.map λ p=>(xJ p.1,p.2)) l->Paired (λ (p:Key×PyData) (q:Key×V)=>p.1=q.1/\ay K H p.2 q.2) kvs l
 | [],l,h=>by
  simp only [List.map_nil,nv] at h
  subst h
  exact .nil
 | p :: kvs,l,h=>by
  simp only [List.map_cons,nv] at h
  obtain ⟨key,v,r,e,ek,h1,h2⟩:=h
  subst e
  exact .cons ⟨yV ek,h1⟩ (kA h2)
theorem DIs.sound {K:PySem.W.Frag}{H:Hp}{M:MH}{w:W}{x:V}(g:DIs M w)(r:az K H w x)(m:cm K H M):∃ a,x=.ref a/\IsD H a:=by
 cases g with
 | k h =>
  obtain ⟨l,e,_⟩:=m _ _ h
  exact ⟨_,r,.inl ⟨l,.inl e⟩⟩
 | t h =>
  obtain ⟨l,e,_⟩:=m _ _ h
  exact ⟨_,r,.inr ⟨l,.inl e⟩⟩
 | d =>
  simp only [az,ay] at r
  obtain ⟨a,o,l,e,h,_⟩:=r
  exact ⟨a,e,.inl ⟨l,.inr ⟨o,h⟩⟩⟩
theorem mM.sound {K:PySem.W.Frag}{H:Hp}{M:MH}{w y:W}{o:Option W}{x v:V}(g:mM M w y o)(r:az K H w x)(ry:az K H y v)(m:cm K H M) :
  ∃ a p,x=.ref a/\qX K H a v p/\OR (az K H) o p:=by
 cases g with
 | @k a kvs k h =>
  obtain ⟨l,e,pr⟩:=m _ _ h
  exact ⟨_,_,r,.inl ⟨l,k,.inl (.inl e),hZ ry,rfl⟩,kd k pr⟩
 | @f a kvs k h =>
  obtain ⟨ob,l,e,pr⟩:=m _ _ h
  exact ⟨_,_,r,.inl ⟨l,k,.inr ⟨ob,e⟩,hZ ry,rfl⟩,kd k pr⟩
 | @t a kvs ks h =>
  obtain ⟨l,e,pr⟩:=m _ _ h
  simp only [tkW,az,ay] at ry
  obtain ⟨b,vs,eb,hs,ra⟩:=ry
  rw [ad5 ra] at hs
  exact ⟨_,_,r,.inr ⟨l,ks,b,.inl e,eb,hs,rfl⟩,kd ks pr⟩
 | @d kvs k =>
  simp only [az,ay] at r
  obtain ⟨a,ob,l,e,h,rk⟩:=r
  refine ⟨a,_,e,.inl ⟨l,k,.inl (.inr ⟨ob,h⟩),hZ ry,rfl⟩,?_⟩
  have g:=kd (R:=λ d q=>ay K H d q) k (kA rk)
  cases q:fq kvs k with
  | none=>rw [q] at g; rw [OR.none_of g]; exact True.intro
  | some z =>
   rw [q] at g
   obtain ⟨b,eb,rb⟩:=OR.some_of g
   rw [eb]
   exact rb
section
variable {X:Cx}{o i e f:Expr}{pos apos cpos:Pos}{td ty tx:TE}
def adw (K:PySem.W.Frag)(ty td:TE):TE:=λ σ H Q=>ty σ H λ y H1=>td σ H1 λ x H2=>∃ a o,x=.ref a/\qX K H2 a y o/\Q (.bl o.isSome) H2
def tO (K:PySem.W.Frag)(ty td:TE):TE:=λ σ H Q=>ty σ H λ y H1=>td σ H1 λ x H2=>∃ a o,x=.ref a/\qX K H2 a y o/\Q (.bl (!o.isSome)) H2
theorem abf (hu:X.A.units+1 < cLine)(hi:PE X i ty)(ho:PE X o td):PC X .In i o (adw X.K ty td):=by
 intro pins s σ H Q I h
 refine thn (hi pins s σ H _ I h) λ iv s1 ⟨y,H1,I1,ry,q1⟩=>thn (ho pins s1 σ H1 _ I1 q1) λ u s2 hq58=>?_
 obtain ⟨x,H2,I2,rx,a,ov,ex,g,q2⟩:=hq58
 subst ex
 obtain rfl:u=Value.ref a:=rx
 exact afs hu I2 g ry λ s3 I3=>⟨.bl ov.isSome,H2,I3,rfl,q2⟩
theorem uq (hu:X.A.units+1 < cLine)(hi:PE X i ty)(ho:PE X o td):PC X .NotIn i o (tO X.K ty td):=by
 intro pins s σ H Q I h
 refine thn (hi pins s σ H _ I h) λ iv s1 ⟨y,H1,I1,ry,q1⟩=>thn (ho pins s1 σ H1 _ I1 q1) λ u s2 hq59=>?_
 obtain ⟨x,H2,I2,rx,a,ov,ex,g,q2⟩:=hq59
 subst ex
 obtain rfl:u=Value.ref a:=rx
 exact yO hu I2 g ry λ s3 I3=>⟨.bl (!ov.isSome),H2,I3,rfl,q2⟩
def aaQ (K:PySem.W.Frag)(td ty tx:TE):TE:=λ σ H Q=>td σ H λ x H1=>∃ a,x=.ref a/\IsD H1 a/\ty σ H1 λ y H2=>tx σ H2 λ z H3=>∃ o,qX K H3 a y o/\Q (o.getD z) H3
theorem wW (hu:X.A.units+1 < cLine)(ho:PE X o td)(he:PE X e ty)(hf:PE X f tx)(m:M2 X o "get" apos e f cpos):PE X (.Call (.Attribute o "get" apos) [e,f] [] cpos) (aaQ X.K td ty tx):=by
 intro pins s σ H Q I h
 refine wpAny_Call_method m.base m.few m.line PySem.F.plainAttrs_dict PySem.F.slot_dict_get PySem.F.type_dict_get (thn (ho pins s σ H _ I h) λ u s1 hq60=>?_)
 obtain ⟨x,H1,I1,rx,a,ex,d,q1⟩:=hq60
 subst ex
 obtain rfl:u=Value.ref a:=rx
 obtain ⟨t1,t2,_⟩:=adp I1 d
 refine ⟨t1,t2,?_⟩
 rw [m.trees]
 refine Calls.callWith_builtin rfl (Calls.evalArgs_plain (Calls.spliced_cons (thn (he pins s1 σ H1 _ I1 q1) λ iv s2 ⟨y,H2,I2,ry,q2⟩ =>
  Calls.spliced_cons (thn (hf pins s2 σ H2 _ I2 q2) λ fv s3 ⟨z,H3,I3,rz,ov,g,q3⟩=>Calls.spliced_nil ?_))))
 exact abu hu I3 g ry rz λ w' s4 I4 rw'=>⟨_,H3,I4,rw',q3⟩
end
section
variable {X:Cx}{o i:Expr}{pos:Pos}{td ty:TE}
def ad1 (td ty:TE):TE:=λ σ H Q=>td σ H λ x H1=>ty σ H1 λ y H2=>∃ a kvs k v,x=.ref a/\Rd2 H2 a (.dK kvs)/\y=kV k/\nK kvs k=some v/\Q v H2
theorem zt (hu:X.A.units+1 < cLine)(ho:PE X o td)(hi:PE X i ty)(hs:ae8 i):PE X (.Subscript o i pos) (ad1 td ty):=by
 intro pins s σ H Q I h
 refine acp PySem.F.slot_dict_getitem.lookup hs (thn (ho pins s σ H _ I h) λ u s1 ⟨x,H1,I1,rx,q1⟩=>thn (hi pins s1 σ H1 _ I1 q1) λ iv s2 hq61=>?_)
 obtain ⟨y,H2,I2,ry,a,kvs,k,v,ex,g,ey,l,q2⟩:=hq61
 subst ex ey
 obtain rfl:u=Value.ref a:=rx
 exact lr hu I2 g l ry λ w' s3 I3 rw'=>⟨v,H2,I3,rw',q2⟩
end
section
variable {X:Cx}{o i e f value:Expr}{es:List Expr}{pos pos' apos cpos:Pos}{td ti tx tv:TD}{t:TAd}
def iy (_:DS)(M:MH)(Q:QD):Prop:=∀ p,M p=none->Q (.m p) (aK M p (.dic []))
theorem fO:PD X (.Dict [] [] pos) iy:=eO zK λ σ H Q ⟨τ,M,Qd,A,h,k⟩ p hp =>
 k (.ref p) _ (.m p) (aK M p (.dic [])) (Kp.new hp) rfl (A.mem.put (mo:=.dic []) (Kp.new hp) ⟨[],au,.nil⟩) (h p (A.mem.free hp))
def afe (ti td:TD)(τ:DS)(M:MH)(Q:QD):Prop:=ti τ M λ y M1=>td τ M1 λ w M2=>∃ o,mM M2 w y o/\Q (.d (.bool o.isSome)) M2
def jZ (ti td:TD)(τ:DS)(M:MH)(Q:QD):Prop:=ti τ M λ y M1=>td τ M1 λ w M2=>∃ o,mM M2 w y o/\Q (.d (.bool (!o.isSome))) M2
theorem ab0 {σ:St}{H:Hp}{Q:VK}(h:up X.K (afe ti td) σ H Q):adw X.K (up X.K ti) (up X.K td) σ H Q:=by
 obtain ⟨τ,M,Qd,A,h,k⟩:=h
 refine ⟨τ,M,_,A,h,λ y H1 wy M1 kp1 r1 m1 q1=>⟨τ,M1,_,A.go kp1 m1,q1,λ x H2 w M2 kp2 r2 m2 hq62=>?_⟩⟩
 obtain ⟨o,g,q2⟩:=hq62
 obtain ⟨a,p,e,g',ro⟩:=g.sound r2 (r1.keep kp2) m2
 refine ⟨a,p,e,g',?_⟩
 rw [<- ro.isSome]
 exact k _ H2 (.d (.bool _)) M2 (kp1.trans kp2) (by simp [az,ay]) m2 q2
theorem uY {σ:St}{H:Hp}{Q:VK}(h:up X.K (jZ ti td) σ H Q):tO X.K (up X.K ti) (up X.K td) σ H Q:=by
 obtain ⟨τ,M,Qd,A,h,k⟩:=h
 refine ⟨τ,M,_,A,h,λ y H1 wy M1 kp1 r1 m1 q1=>⟨τ,M1,_,A.go kp1 m1,q1,λ x H2 w M2 kp2 r2 m2 hq63=>?_⟩⟩
 obtain ⟨o,g,q2⟩:=hq63
 obtain ⟨a,p,e,g',ro⟩:=g.sound r2 (r1.keep kp2) m2
 refine ⟨a,p,e,g',?_⟩
 rw [<- ro.isSome]
 exact k _ H2 (.d (.bool _)) M2 (kp1.trans kp2) (by simp [az,ay]) m2 q2
theorem rD (hu:X.A.units+1 < cLine)(hi:PD X i ti)(ho:PD X o td)(hm:behindInMarks .In o=false:=by rfl):PTd X (.Compare i [.In] [o] pos) (bf (afe ti td)):=abL (aar (abf hu hi ho) hm) λ σ H Q h=>ie (λ σ H Q h=>ab0 h) h
theorem fX (hu:X.A.units+1 < cLine)(hi:PD X i ti)(ho:PD X o td)(hm:behindInMarks .NotIn o=false:=by rfl):PTd X (.Compare i [.NotIn] [o] pos) (bf (jZ ti td)):=abL (aar (uq hu hi ho) hm) λ σ H Q h=>ie (λ σ H Q h=>uY h) h
inductive adQ (M2:MH) (w y:W) (Q:QD):Prop
 | mk (a:Addr) (kvs:List (Key×W)) (k:Key) (v:W) (z0:w=.m a) (z1:M2 a=some (.dic kvs)\/M2 a=some (.fdic kvs)) (z2:y=kW k) (z3:fq kvs k=some v) (q:Q v M2):adQ M2 w y Q
def dy (td ti:TD)(τ:DS)(M:MH)(Q:QD):Prop:=td τ M λ w M1=>ti τ M1 λ y M2=>adQ M2 w y Q
theorem bp (hu:X.A.units+1 < cLine)(ho:PD X o td)(hi:PD X i ti)(hs:ae8 i:=by exact λ _ _=>rfl):PD X (.Subscript o i pos) (dy td ti):=eO (zt hu ho hi hs) λ σ H Q h=>by
 obtain ⟨τ,M,Qd,A,h,k⟩:=h
 refine ⟨τ,M,_,A,h,λ x H1 w M1 kp1 r1 m1 q1=>⟨τ,M1,_,A.go kp1 m1,q1,λ y H2 wy M2 kp2 r2 m2 hq64=>?_⟩⟩
 obtain ⟨a,kvs,key,v,ew,hm,ey,hv,q2⟩:=hq64
 subst ew ey
 obtain ⟨l,e,pr⟩:∃ l,Rd2 H2 a (.dK l)/\Paired (λ (p:Key×W) (q:Key×V)=>p.1=q.1/\az X.K H2 p.2 q.2) kvs l:=by
  rcases hm with hm | hm
  ·obtain ⟨l,e,pr⟩:=m2 _ _ hm
   exact ⟨l,.inl (.inl e),pr⟩
  ·obtain ⟨ob,l,e,pr⟩:=m2 _ _ hm
   exact ⟨l,.inr ⟨ob,e⟩,pr⟩
 have g:=kd key pr
 rw [hv] at g
 obtain ⟨b,eb,rb⟩:=OR.some_of g
 refine ⟨a,l,key,b,r1,e,hZ r2,eb,?_⟩
 exact k _ H2 v M2 (kp1.trans kp2) rb m2 q2
def vf (td ti tx:TD)(τ:DS)(M:MH)(Q:QD):Prop:=td τ M λ w M1=>DIs M1 w/\ti τ M1 λ y M2=>tx τ M2 λ z M3=>∃ o,mM M3 w y o/\Q (o.getD z) M3
theorem OR.getD {K:PySem.W.Frag}{H:Hp}{o:Option W}{p:Option V}{z:W}{v:V}(h:OR (az K H) o p)(r:az K H z v):az K H (o.getD z) (p.getD v):=by
 cases o with
 | none=>rw [OR.none_of h]; exact r
 | some a=>obtain ⟨b,e,q⟩:=OR.some_of h; rw [e]; exact q
theorem ka (hu:X.A.units+1 < cLine)(ho:PD X o td)(he:PD X e ti)(hf:PD X f tx)(m:M2 X o "get" apos e f cpos:=by exact ⟨rfl,rfl,rfl,rfl⟩):PD X (.Call (.Attribute o "get" apos) [e,f] [] cpos) (vf td ti tx):=eO (wW hu ho he hf m) λ σ H Q h=>by
 obtain ⟨τ,M,Qd,A,h,k⟩:=h
 refine ⟨τ,M,_,A,h,λ x H1 w M1 kp1 r1 m1 hq65=>?_⟩
 obtain ⟨di,q1⟩:=hq65
 obtain ⟨a,ea,isd⟩:=di.sound r1 m1
 refine ⟨a,ea,isd,τ,M1,_,A.go kp1 m1,q1,λ y H2 wy M2 kp2 r2 m2 q2=>⟨τ,M2,_,A.go (kp1.trans kp2) m2,q2,λ z H3 wz M3 kp3 r3 m3 hq66=>?_⟩⟩
 obtain ⟨o,g,q3⟩:=hq66
 obtain ⟨a',p,e',g',ro⟩:=g.sound (r1.keep (kp2.trans kp3)) (r2.keep kp3) m3
 rw [ea] at e'
 cases e'
 exact ⟨p,g',k _ H3 _ M3 ((kp1.trans kp2).trans kp3) (ro.getD r3) m3 q3⟩
def oN (td ti tv:TD)(D:Ed)(τ:DS)(M:MH):Prop:=tv τ M λ v M1=>td τ M1 λ w M2=>ti τ M2 λ y M3=>∃ a kvs k,w=.m a/\M3 a=some (.dic kvs)/\y=kW k/\kvs.length < sizeLine/\D.nx τ (aK M3 a (.dic (p9 kvs k v)))
theorem dR (hu:X.A.units+1 < cLine)(ho:PD X o td)(hi:PD X i ti)(hv:PD X value tv)(hs:swapsWith value (some (.Subscript o i pos')) pos.line X.env=pure false:=by rfl) :
  PSd X (.Assign [.Subscript o i pos'] value pos) (oN td ti tv):=tG (acF hu ho hi hv hs) λ D σ H h=>by
 obtain ⟨τ,M,Dd,A,h,k1,_⟩:=h
 refine ⟨τ,M,_,A,h,λ v H1 wv M1 kp1 r1 m1 q1=>⟨τ,M1,_,A.go kp1 m1,q1,λ x H2 w M2 kp2 r2 m2 q2=>⟨τ,M2,_,A.go (kp1.trans kp2) m2,q2,λ y H3 wy M3 kp3 r3 m3 hq67=>?_⟩⟩⟩
 obtain ⟨a,kvs,key,ew,hm,ey,hl,q3⟩:=hq67
 subst ew ey
 obtain ⟨l,e,pr⟩:=m3 _ _ hm
 have kp4:Kp H3 (upd H3 a (.dK (putK l key v))):=Kp.set e (λ _ z=>nomatch z) (λ _ _ z=>nomatch z)
 refine ⟨a,_,r2,.inl ⟨l,key,e,hZ r3,by rw [<- jq pr]; exact hl,rfl⟩,?_⟩
 have rv:az X.K H3 wv v:=(r1.keep kp2).keep kp3
 refine k1 _ _ _ _ (((kp1.trans kp2).trans kp3).trans kp4) (A.go (((kp1.trans kp2).trans kp3).trans kp4) (m3.put (mo:=.dic (p9 kvs key wv)) kp4 ⟨_,au,?_⟩)) q3
 exact Paired.je (sF key rv pr) λ p q z=>⟨z.1,z.2.keep kp4⟩
end
end D
namespace D
open PySem PySem.Spec PyProof.Rows L2
def yy (f:Str)(v:W):List (Str×W)->List (Str×W)
 | []=>[(f,v)]
 | (g,x) :: r=>if g=f then (g,v) :: r else (g,x) :: yy f v r
abbrev yr (K:PySem.W.Frag)(H:Hp):List (Str×W)->List (Str×V)->Prop:=Paired (λ (p:Str×W) (q:Str×V)=>p.1=q.1/\az K H p.2 q.2)
theorem dA {K:PySem.W.Frag}{H:Hp}(f:Str):∀ {fs:List (Str×W)} {l:List (Str×V)},yr K H fs l->OR (az K H) (fs.lookup f) (l.lookup f)
 | _,_,.nil=>True.intro
 | _,_,.cons (a:=p) (b:=q) (l₁:=t1) (l₂:=t2) h t=>by
  obtain ⟨pk,pv⟩:=p
  obtain ⟨qk,qv⟩:=q
  obtain ⟨h1,h2⟩:=h
  have h1':pk=qk:=h1
  subst h1'
  rw [List.lookup_cons,List.lookup_cons]
  cases e:(f == pk) with
  | true=>exact h2
  | false=>exact dA f t
theorem xN {K:PySem.W.Frag}{H:Hp}(f:Str){w:W}{v:V}(r:az K H w v):∀ {fs:List (Str×W)} {l:List (Str×V)},yr K H fs l->yr K H (yy f w fs) (kR f v l)
 | _,_,.nil=>.cons ⟨rfl,r⟩ .nil
 | _,_,.cons (a:=p) (b:=q) (l₁:=t1) (l₂:=t2) h t=>by
  obtain ⟨pk,pv⟩:=p
  obtain ⟨qk,qv⟩:=q
  obtain ⟨h1,h2⟩:=h
  have h1':pk=qk:=h1
  subst h1'
  show yr K H (if pk=f then (pk,w) :: t1 else (pk,pv) :: yy f w t1) (if pk=f then (pk,v) :: t2 else (pk,qv) :: kR f v t2)
  by_cases e:pk=f
  ·rw [if_pos e,if_pos e]
   exact .cons ⟨rfl,r⟩ t
  ·rw [if_neg e,if_neg e]
   exact .cons ⟨rfl,h2⟩ (xN f r t)
theorem wj {K:PySem.W.Frag}{H:Hp}:∀ {fs:List (Str×W)} {l:List (Str×V)},yr K H fs l->fs.length=l.length
 | _,_,.nil=>rfl
 | _,_,.cons _ t=>by simp [wj t]
theorem yr.keep {K:PySem.W.Frag}{H H':Hp}(kp:Kp H H'){fs:List (Str×W)}{l:List (Str×V)}(h:yr K H fs l):yr K H' fs l:=Paired.je h λ p q z=>⟨z.1,z.2.keep kp⟩
section
variable {X:Cx}{C f:Addr}{o e value:Expr}{es:List Expr}{fn m x:Str}{pos pos' apos p:Pos}{td tv te:TD}{t:TAd}{k:Nat}{fd:FuncData}{ps:List Str}{sp:SpD}
inductive agX (C:Addr) (fn:Str) (M1:MH) (w:W) (Q:QD):Prop
 | mk (a:Addr) (fs:List (Str×W)) (v:W) (z0:w=.m a) (z1:M1 a=some (.ins C fs)) (z2:fs.lookup fn=some v) (q:Q v M1):agX C fn M1 w Q
def sT (C:Addr)(td:TD)(fn:Str)(τ:DS)(M:MH)(Q:QD):Prop:=td τ M λ w M1=>agX C fn M1 w Q
theorem dW (c:Cls X.K C)(n:cy X.K C fn)(he:PD X e td)(hb:attributeBase e fn X.env (eval e X.env)=eval e X.env:=by rfl):PD X (.Attribute e fn pos) (sT C td fn):=eO (aeo he hb) λ σ H Q h=>by
 obtain ⟨τ,M,Qd,A,h,k⟩:=h
 refine ⟨τ,M,_,A,h,λ x H1 w M1 kp1 r1 m1 hq68=>?_⟩
 obtain ⟨a,fs,v,ew,hm,hl,q⟩:=hq68
 subst ew
 obtain ⟨dx,l,e,pr⟩:=m1 _ _ hm
 have g:=dA fn pr
 rw [hl] at g
 obtain ⟨b,eb,rb⟩:=OR.some_of g
 exact ⟨a,C,dx,l,b,r1,e,c,n,eb,k _ H1 v M1 kp1 rb m1 q⟩
def eU (C:Addr)(td tv:TD)(fn:Str)(D:Ed)(τ:DS)(M:MH):Prop:=tv τ M λ v M1=>td τ M1 λ w M2=>∃ a fs,w=.m a/\M2 a=some (.ins C fs)/\fs.length < 1000/\D.nx τ (aK M2 a (.ins C (yy fn v fs)))
theorem eR (c:Cls X.K C)(n:cy X.K C fn)(ha:PD X o td)(hv:PD X value tv)(hs:swapsWith value (some (.Attribute o fn pos')) pos.line X.env=pure false:=by rfl):PSd X (.Assign [.Attribute o fn pos'] value pos) (eU C td tv fn):=tG (adX ha hv hs) λ D σ H h=>by
 obtain ⟨τ,M,Dd,A,h,k1,_⟩:=h
 refine ⟨τ,M,_,A,h,λ v H1 wv M1 kp1 r1 m1 q1=>⟨τ,M1,_,A.go kp1 m1,q1,λ x H2 w M2 kp2 r2 m2 hq69=>?_⟩⟩
 obtain ⟨a,fs,ew,hm,hl,q2⟩:=hq69
 subst ew
 obtain ⟨dx,l,e,pr⟩:=m2 _ _ hm
 have kp4:Kp H2 (upd H2 a (.ins C dx (kR fn v l))):=Kp.set e (λ _ z=>nomatch z) (λ _ _ z=>nomatch z)
 refine ⟨a,C,dx,l,r2,e,c,n,by rw [<- wj pr]; exact hl,?_⟩
 refine k1 _ _ _ _ ((kp1.trans kp2).trans kp4) (A.go ((kp1.trans kp2).trans kp4) (m2.put (mo:=.ins C (yy fn wv fs)) kp4 ⟨dx,_,au,?_⟩)) q2
 exact yr.keep kp4 (xN fn (r1.keep kp2) pr)
inductive aeF (C:Addr) (m:Str) (M1:MH) (w:W) (q:Prop):Prop
 | mk (a:Addr) (fs:List (Str×W)) (z0:w=.m a) (z1:M1 a=some (.ins C fs)) (z2:fs.lookup m=none) (z3:q):aeF C m M1 w q
def i9 (C:Addr)(m:Str)(sp:SpD)(td:TD)(t:TAd)(τ:DS)(M:MH)(Q:QD):Prop:=td τ M λ w M1=>aeF C m M1 w (t τ M1 λ ws M2=>sp (w :: ws) M2 Q)
theorem yS {σ:St}{H:Hp}{Q:VK}(h:up X.K (i9 C m sp td t) σ H Q):abG C m (de X.K sp) [] E0 (up X.K td) (upA X.K t) σ H Q:=by
 obtain ⟨τ,M,Qd,A,h,k⟩:=h
 refine ⟨τ,M,_,A,h,λ x H1 w M1 kp1 r1 m1 hq70=>?_⟩
 obtain ⟨a,fs,ew,hm,hl,q1⟩:=hq70
 subst ew
 obtain ⟨dx,l,e,pr⟩:=m1 _ _ hm
 have g:=dA m pr
 rw [hl] at g
 refine ⟨a,dx,l,r1,e,OR.none_of g,τ,M1,_,A.go kp1 m1,q1,λ vs H2 ws M2 kp2 r2 m2 q2=>?_⟩
 exact ⟨.m a :: ws,M2,Qd,by rw [List.append_nil]; exact .cons r1 r2,m2,q2,kgo (kgo k kp1) kp2⟩
theorem ng {pl:Sem Bool}(he:PD X o td)(c:Cls X.K C)(hm:Meth X.K C m f)(F:bV X.prog X.w X.K X.mg X.base CX0 k f fd ps (de X.K sp))(hr:cG k X.A)(hb:Binds X.K fd ps [])(ha:PAd X (e :: es) t)
  (ht:eval (.Call (.Attribute o m apos) (e :: es) [] pos) X.env=(do
   let ov <- eval o X.env
   standAt apos.atName
   let (f,first) <- holding [ov] (getMethod ov m pl)
   callWith pos f first (backTo pos (starEach (e :: es) X.env)) (backToKw pos (keywordEach [] X.env))):=by rfl)
  (h1:df e=false:=by rfl)(h2:(es.all λ e=>!df e)=true:=by rfl):PD X (.Call (.Attribute o m apos) (e :: es) [] pos) (i9 C m sp td t) :=
 eO (abY (E:=E0) (dvs:=[]) he c hm F hr hb .nil vO ha (bK e es X.env h1) (cE pos X.env es h2) ht) λ σ H Q h=>yS h
theorem fj {pl:Sem Bool}(he:PD X o td)(c:Cls X.K C)(hm:Meth X.K C m f)(F:bV X.prog X.w X.K X.mg X.base CX0 k f fd ps (de X.K sp))(hr:cG k X.A)(hb:Binds X.K fd ps [])
  (ht:eval (.Call (.Attribute o m apos) [] [] pos) X.env=(do
   let ov <- eval o X.env
   standAt apos.atName
   let (f,first) <- holding [ov] (getMethod ov m pl)
   callWith pos f first (backTo pos (starEach [] X.env)) (backToKw pos (keywordEach [] X.env))):=by rfl):PD X (.Call (.Attribute o m apos) [] [] pos) (i9 C m sp td aP) :=
 eO (yB (E:=E0) (dvs:=[]) he c hm F hr hb .nil vO ht) λ σ H Q h=>by
  obtain ⟨τ,M,Qd,A,h,k⟩:=h
  refine ⟨τ,M,_,A,h,λ x H1 w M1 kp1 r1 m1 hq71=>?_⟩
  obtain ⟨a,fs,ew,hm,hl,q1⟩:=hq71
  subst ew
  obtain ⟨dx,l,e,pr⟩:=m1 _ _ hm
  have g:=dA m pr
  rw [hl] at g
  exact ⟨a,dx,l,r1,e,OR.none_of g,.m a :: [],M1,Qd,.cons r1 .nil,m1,q1,kgo k kp1⟩
def zi (C:Addr)(sp:SpD)(t:TAd)(τ:DS)(M:MH)(Q:QD):Prop:=t τ M λ ws M1=>∀ a,M1 a=none->sp (.m a :: ws) (aK M1 a (.ins C [])) (λ v M2=>v=.d .none/\Q (.m a) M2)
theorem nJ {H1:Hp}{M1:MH}{a dx:Addr}(m1:cm X.K H1 M1)(ha:H1 a=none)(hd:H1 dx=none)(hn:dx≠a):Kp H1 (upd (upd H1 dx (.own a)) a (.ins C dx []))/\cm X.K (upd (upd H1 dx (.own a)) a (.ins C dx [])) (aK M1 a (.ins C [])):=by
 have k1:Kp H1 (upd H1 dx (.own a)):=Kp.new hd
 have ha2:(upd H1 dx (.own a)) a=none:=by rw [ao (Ne.symm hn)]; exact ha
 have k2:Kp (upd H1 dx (.own a)) (upd (upd H1 dx (.own a)) a (.ins C dx [])):=Kp.new ha2
 exact ⟨k1.trans k2,(m1.new hd).put (mo:=.ins C []) k2 ⟨dx,[],au,.nil⟩⟩
theorem nu (Mk':Mk X.K C f)(F:bV X.prog X.w X.K X.mg X.base CX0 k f fd ps (de X.K sp))(hr:cG (k+1) X.A)(hg:Gl X x)(hm:X.mg x=some (.ref C))(hb:Binds X.K fd ps [])(ha:PAd X (e :: es) t)(hdb:(x == ("__debug__" : Str))=false:=by decide)
  (h1:df e=false:=by rfl)(h2:(es.all λ e=>!df e)=true:=by rfl):PD X (.Call (.Name x p) (e :: es) [] pos) (zi C sp t) :=
 eO (acE (E:=E0) (dvs:=[]) Mk' F hr hg hm hb .nil vO ha hdb (bK e es X.env h1) (cE pos X.env es h2)) λ σ H Q h=>by
  obtain ⟨τ,M,Qd,A,h,k⟩:=h
  refine ⟨τ,M,_,A,h,λ vs H1 ws M1 kp1 r1 m1 q1 a dx ha hd hn=>?_⟩
  obtain ⟨kp2,m2⟩:=nJ (X:=X) (C:=C) m1 ha hd hn
  exact ⟨.m a :: ws,_,_,by rw [List.append_nil]; exact .cons rfl (r1.keep kp2),m2,q1 a (m1.free ha),λ v H' w M' kp3 r3 m3 hq72=>by
   obtain ⟨e3,q3⟩:=hq72
   subst e3
   simp only [az,ay] at r3
   exact ⟨r3,k _ H' (.m a) M' ((kp1.trans kp2).trans kp3) rfl m3 q3⟩⟩
end
def jV (M:MH)(a:Addr):MH:=λ b=>if b=a then none else M b
theorem abE {M:MH}{a b:Addr}(h:b≠a):jV M a b=M b:=if_neg h
theorem cm.del {K:PySem.W.Frag}{H:Hp}{M:MH}{a:Addr}{o:HO}(m:cm K H M)(kp:Kp H (upd H a o)):cm K (upd H a o) (jV M a):=λ b mo hm=>by
 by_cases e:b=a
 ·subst e; simp [jV] at hm
 ·rw [abE e] at hm
  exact (m b mo hm).keep kp λ u z=>by rw [ao e]; exact z
def aev (R:W->MH->Prop)(ws:List W)(M:MH):Prop:=match ws with
 | [y]=>R y M
 | _=>False
theorem mQ {R:W->MH->Prop}{ws:List W}{M:MH}(h:aev R ws M):∃ y,ws=[y]/\R y M:=by
 match ws,h with
 | [y],h=>exact ⟨y,rfl,h⟩
section
variable {X:Cx}{o e:Expr}{pos apos cpos:Pos}{td te:TD}
def jn (td:TD)(τ:DS)(M:MH)(Q:QD):Prop:=td τ M λ w M1=>∃ a ds,w=.m a/\M1 a=some (.lst (ds.map W.d))/\Q (.d (.list ds)) (jV M1 a)
theorem eW (h:PD X e td):PD X e (jn td):=eO (sQ h) λ σ H Q h=>by
 obtain ⟨τ,M,Qd,A,h,k⟩:=h
 refine ⟨τ,M,_,A,h,λ x H1 w M1 kp1 r1 m1 hq73=>?_⟩
 obtain ⟨a,ds,ew,hm,q⟩:=hq73
 subst ew
 obtain ⟨vs,e,ra⟩:=m1 _ _ hm
 refine ⟨a,_,r1,e,trivial,λ ob=>?_⟩
 have kp2:Kp H1 (upd H1 a (.frz ob (.lst vs))):=Kp.set e (λ _ z=>nomatch z) (λ _ _ z=>nomatch z)
 refine k _ _ (.d (.list ds)) (jV M1 a) (kp1.trans kp2) ?_ (m1.del kp2) q
 simp only [az,ay]
 exact ⟨a,vs,r1,.inl ⟨ob,au⟩,ra.data.keep kp2⟩
def ml (td te:TD)(τ:DS)(M:MH)(Q:QD):Prop:=td τ M λ w M1=>∃ a ws,w=.m a/\M1 a=some (.lst ws)/\te τ M1 λ y M2=>∃ ws',M2 a=some (.lst ws')/\ws'.length < sizeLine/\Q (.d .none) (aK M2 a (.lst (ws'++[y])))
theorem hG (ho:PD X o td)(he:PD X e te)
  (hbase:attributeBase o "append" X.env (eval o X.env)=eval o X.env:=by rfl)
  (hfew:((backTo cpos (starEach [e] X.env)).all (λ x=>!x.1) && (backToKw cpos (keywordEach [] X.env)).all (λ x=>x.1.isSome)
   && decide (([e]:List Expr).length+([]:List Keyword).length+(if ([]:List Keyword).isEmpty then 0 else 1) < 30))=true:=by rfl)
  (hline:(apos.endLine == cpos.line)=true:=by rfl)(hs:df e=false:=by rfl):PD X (.Call (.Attribute o "append" apos) [e] [] cpos) (ml td te) :=
 eO (xa PySem.F.plainAttrs_list PySem.F.slot_list_append PySem.F.type_list_append vS ho (pac he ag hs) hbase hfew hline (bK e [] X.env hs) rfl) λ σ H Q h=>by
  obtain ⟨τ,M,Qd,A,h,k⟩:=h
  refine ⟨τ,M,_,A,h,λ x H1 w M1 kp1 r1 m1 hq74=>?_⟩
  obtain ⟨a,ws,ew,hm,q1⟩:=hq74
  subst ew
  obtain ⟨vs,ea,ra⟩:=m1 _ _ hm
  have r1':x=.ref a:=r1
  subst r1'
  refine ⟨.inl ⟨rfl,vs,.inl (.inl ea)⟩,τ,M1,aev (λ y M2=>∃ ws',M2 a=some (.lst ws')/\ws'.length < sizeLine/\Qd (.d .none) (aK M2 a (.lst (ws'++[y])))),A.go kp1 m1,q1,λ ys H2 wys M2 kp2 r2 m2 q2=>?_⟩
  obtain ⟨y,ey,ws',hm2,hl,q4⟩:=mQ q2
  subst ey
  obtain ⟨v,ev,rv⟩:=eL r2
  subst ev
  obtain ⟨vs2,ea2,ra2⟩:=m2 _ _ hm2
  have kp4:Kp H2 (upd H2 a (.lst (vs2++[v]))):=Kp.set ea2 (λ _ z=>nomatch z) (λ _ _ z=>nomatch z)
  refine ⟨a,vs2,v,rfl,rfl,ea2,by rw [<- ra2.length]; exact hl,?_⟩
  exact k _ _ (.d .none) _ ((kp1.trans kp2).trans kp4) (by simp [az,ay]) (m2.put (mo:=.lst (ws'++[y])) kp4 ⟨_,au,(aJ.append ra2 (.cons rv .nil)).keep kp4⟩) q4
def mI (td:TD)(τ:DS)(M:MH)(Q:QD):Prop:=td τ M λ w M1=>∃ a ws,w=.m a/\M1 a=some (.lst ws)/\Q (.d .none) (aK M1 a (.lst ws.reverse))
theorem aJ.reverse {K:PySem.W.Frag}{H:Hp}:∀ {ws:List W} {vs:List V},aJ K H ws vs->aJ K H ws.reverse vs.reverse
 | _,_,.nil=>.nil
 | _,_,.cons h t=>by
  simp only [List.reverse_cons]
  exact aJ.append (aJ.reverse t) (.cons h .nil)
theorem iE (ho:PD X o td)(hbase:attributeBase o "reverse" X.env (eval o X.env)=eval o X.env:=by rfl)(hline:(apos.endLine == cpos.line)=true:=by rfl):PD X (.Call (.Attribute o "reverse" apos) [] [] cpos) (mI td) :=
 eO (aew PySem.F.plainAttrs_list PySem.F.slot_list_reverse PySem.F.type_list_reverse ue ho hbase hline) λ σ H Q h=>by
  obtain ⟨τ,M,Qd,A,h,k⟩:=h
  refine ⟨τ,M,_,A,h,λ x H1 w M1 kp1 r1 m1 hq75=>?_⟩
  obtain ⟨a,ws,ew,hm,q1⟩:=hq75
  subst ew
  obtain ⟨vs,ea,ra⟩:=m1 _ _ hm
  have r1':x=.ref a:=r1
  subst r1'
  have kp4:Kp H1 (upd H1 a (.lst vs.reverse)):=Kp.set ea (λ _ z=>nomatch z) (λ _ _ z=>nomatch z)
  refine ⟨.inl ⟨rfl,vs,.inl (.inl ea)⟩,a,vs,rfl,rfl,ea,?_⟩
  exact k _ _ (.d .none) _ (kp1.trans kp4) (by simp [az,ay]) (m1.put (mo:=.lst ws.reverse) kp4 ⟨_,au,(aJ.reverse ra).keep kp4⟩) q1
end
end D
namespace D
open PySem PySem.Spec PyProof.Rows L2
def qB (K:PySem.W.Frag)(H:Hp)(d:PyData)(x:V):Prop:=ay K H d x\/∃ a vs ds,d=.list ds/\x=.ref a/\H a=some (.lst vs)/\bj K H ds vs
inductive y6 (M:MH):W->PyData->Prop
 | d {x:PyData}:y6 M (.d x) x
 | l {a:Addr} {ds:List PyData} (h:M a=some (.lst (ds.map W.d))):y6 M (.m a) (.list ds)
theorem y6.sound {K:PySem.W.Frag}{H:Hp}{M:MH}{w:W}{d:PyData}{x:V}(g:y6 M w d)(r:az K H w x)(m:cm K H M):qB K H d x:=by
 cases g with
 | d=>exact .inl r
 | l h =>
  obtain ⟨vs,e,ra⟩:=m _ _ h
  exact .inr ⟨_,vs,_,rfl,r,e,ra.data⟩
section
variable {X:Cx}{pins:List (Addr×Obj)}{σ:St}{H:Hp}{s:Shared}
theorem ahs (I:Inv X pins σ H s){d:PyData}{x:V}(h:qB X.K H d x):∃ H',Inv X pins σ H' s/\ay X.K H' d x:=by
 rcases h with h | ⟨a,vs,ds,rfl,rfl,e,ra⟩
 ·exact ⟨H,I,h⟩
 ·obtain ⟨o,I2⟩:=I.freeze e trivial
  have kp:Kp H (upd H a (.frz o (.lst vs))):=Kp.set e (λ _ z=>nomatch z) (λ _ _ z=>nomatch z)
  refine ⟨_,I2,?_⟩
  simp only [ay]
  exact ⟨a,vs,rfl,.inl ⟨o,au⟩,ra.keep kp⟩
theorem eB (I:Inv X pins σ H s)(d:PyData){x:V}{u:Value}(h:qB X.K H d x)(r:RelV x u)(hd:d.hasDict=false):∃ as,Reads s.heap u d as:=by
 obtain ⟨H',I',h'⟩:=ahs I h
 exact fZ I' d h' r hd
end
section
variable {X:Cx}
theorem gO {k:Nat}(hr:mj k X.A):OpR X (compareOp .Eq) (λ x y H Q=>∃ d d',qB X.K H d x/\qB X.K H d' y/\dO d d'=true/\Q (.bl (PyData.eqv d d')) H):=by
 intro pins s σ H x y v u Q I rx ry h
 obtain ⟨d,d',h1,h2,o,q⟩:=h
 rcases fc o with ⟨a,b,e1,e2⟩ | ⟨o1,o2⟩
 ·subst e1; subst e2
  rcases h1 with h1 | ⟨_,_,_,z,_⟩
  ·rcases h2 with h2 | ⟨_,_,_,z,_⟩
   ·exact aav hr pins s σ H x y v u Q I rx ry ⟨_,_,h1,h2,o,q⟩
   ·cases z
  ·cases z
 simp only [kK,Bool.and_eq_true,Bool.not_eq_true'] at o1 o2
 obtain ⟨as,r1⟩:=eB I d h1 rx o1.2
 obtain ⟨bs,r2⟩:=eB I d' h2 ry o2.2
 exact eq_dataH r1 r2 o1.1 o2.1 hr.units ⟨.bl _,H,I,rfl,q⟩
theorem aaE {k:Nat}(hr:mj k X.A):OpR X (compareOp .NotEq) (λ x y H Q=>∃ d d',qB X.K H d x/\qB X.K H d' y/\dO d d'=true/\Q (.bl (!PyData.eqv d d')) H):=by
 intro pins s σ H x y v u Q I rx ry h
 obtain ⟨d,d',h1,h2,o,q⟩:=h
 rcases fc o with ⟨a,b,e1,e2⟩ | ⟨o1,o2⟩
 ·subst e1; subst e2
  rcases h1 with h1 | ⟨_,_,_,z,_⟩
  ·rcases h2 with h2 | ⟨_,_,_,z,_⟩
   ·exact adZ hr pins s σ H x y v u Q I rx ry ⟨_,_,h1,h2,o,q⟩
   ·cases z
  ·cases z
 simp only [kK,Bool.and_eq_true,Bool.not_eq_true'] at o1 o2
 obtain ⟨as,r1⟩:=eB I d h1 rx o1.2
 obtain ⟨bs,r2⟩:=eB I d' h2 ry o2.2
 exact ne_dataH r1 r2 o1.1 o2.1 hr.units ⟨.bl _,H,I,rfl,q⟩
end
section
variable {X:Cx}{K:PySem.W.Frag}
def kT (w w':W)(M:MH)(Q:QD):Prop:=∃ d d',y6 M w d/\y6 M w' d'/\dO d d'=true/\Q (.d (.bool (PyData.eqv d d'))) M
def aaZ (w w':W)(M:MH)(Q:QD):Prop:=∃ d d',y6 M w d/\y6 M w' d'/\dO d d'=true/\Q (.d (.bool (!PyData.eqv d d'))) M
theorem fm:OpD K (λ x y H Q=>∃ d d',qB K H d x/\qB K H d' y/\dO d d'=true/\Q (.bl (PyData.eqv d d')) H) kT:=by
 intro x y H w w' M Qd Q r1 r2 m ⟨d,d',g1,g2,o1,q⟩ k
 exact ⟨d,d',g1.sound r1 m,g2.sound r2 m,o1,k _ H (.d (.bool _)) M (Kp.refl H) (by simp [az,ay]) m q⟩
theorem vp:OpD K (λ x y H Q=>∃ d d',qB K H d x/\qB K H d' y/\dO d d'=true/\Q (.bl (!PyData.eqv d d')) H) aaZ:=by
 intro x y H w w' M Qd Q r1 r2 m ⟨d,d',g1,g2,o1,q⟩ k
 exact ⟨d,d',g1.sound r1 m,g2.sound r2 m,o1,k _ H (.d (.bool _)) M (Kp.refl H) (by simp [az,ay]) m q⟩
inductive acg (M:MH):W->List W->Prop
 | l {ds:List PyData}:acg M (.d (.list ds)) (ds.map W.d)
 | t {ds:List PyData}:acg M (.d (.tuple ds)) (ds.map W.d)
 | m {a:Addr} {ws:List W} (h:M a=some (.lst ws)):acg M (.m a) ws
theorem acg.sound {H:Hp}{M:MH}{w:W}{ws:List W}{x:V}(g:acg M w ws)(r:az K H w x)(m:cm K H M):∃ p ys,x=.ref p/\(SqL K H p ys\/SqT K H p ys)/\aJ K H ws ys:=by
 cases g with
 | l =>
  simp only [az,ay] at r
  obtain ⟨a,vs,e,hs,ra⟩:=r
  exact ⟨a,vs,e,.inl hs.sq,ra.ws⟩
 | t =>
  simp only [az,ay] at r
  obtain ⟨a,vs,e,hs,ra⟩:=r
  exact ⟨a,vs,e,.inr hs,ra.ws⟩
 | m h =>
  obtain ⟨vs,e,ra⟩:=m _ _ h
  exact ⟨_,vs,r,.inl (.inl (.inl e)),ra⟩
def ff (ws:List W)(M:MH)(Q:QD):Prop:=∃ w xs,ws=[w]/\acg M w xs/\∀ p,M p=none->Q (.m p) (aK M p (.lst xs))
theorem gL:gf K (λ xs H Q=>∃ p ys,xs=[.ref p]/\(SqL K H p ys\/SqT K H p ys)/\∀ l,H l=none->Q (.ref l) (upd H l (.lst ys))) ff:=by
 intro vs H ws M Qd Q r m ⟨w,xs,e,g,q⟩ k
 subst e
 obtain ⟨v,e1,r1⟩:=eL r
 obtain ⟨p,ys,ev,hs,rs⟩:=g.sound r1 m
 subst ev
 refine ⟨p,ys,e1,hs,λ l hl=>?_⟩
 have kp:Kp H (upd H l (.lst ys)):=Kp.new hl
 exact k _ _ (.m l) _ kp rfl (m.put (mo:=.lst xs) kp ⟨ys,au,rs.keep kp⟩) (q l (m.free hl))
def a6 (zs:List Str):List W:=zs.map λ z=>.d (.str z)
theorem sM {H:Hp}:∀ {zs:List Str} {vs:List V},aJ K H (a6 zs) vs->vs=zs.map V.str
 | [],_,h=>by cases h; rfl
 | z :: zs,_,h=>by
  cases h with
  | cons r t =>
   simp only [az,ay] at r
   rw [r,sM t]
   rfl
theorem yn (z:Str):∀ zs:List Str,inV (.str z) (zs.map V.str)=decide (z∈zs)
 | []=>rfl
 | y :: zs=>by
  have h:inV (.str z) ((y :: zs).map V.str)=((y == z) || inV (.str z) (zs.map V.str)):=rfl
  rw [h,yn z zs]
  by_cases e:z=y
  ·subst e; simp
  ·have e':(y == z)=false:=by
    cases q:(y == z) with
    | false=>rfl
    | true=>exact absurd (eq_of_beq q).symm e
   rw [e']
   simp [e]
theorem xA:∀ zs:List Str,(zs.map V.str).all kX=true
 | []=>rfl
 | _ :: zs=>by simp [kX]
def zA (neg:Bool)(w w':W)(M:MH)(Q:QD):Prop:=∃ z zs,w=.d (.str z)/\acg M w' (a6 zs)/\Q (.d (.bool (if neg then !decide (z∈zs) else decide (z∈zs)))) M
theorem nD (neg:Bool):OpD K (rIn K neg) (zA neg):=by
 intro x y H w w' M Qd Q r1 r2 m ⟨z,zs,ew,g,q⟩ k
 subst ew
 simp only [az,ay] at r1
 subst r1
 obtain ⟨p,ys,ey,hs,rs⟩:=g.sound r2 m
 have e:=sM rs
 subst e
 refine ⟨p,_,ey,hs,rfl,xA zs,?_⟩
 rw [yn]
 exact k _ H (.d (.bool _)) M (Kp.refl H) (by simp [az,ay]) m q
inductive wG (M:MH):W->Bool->Prop
 | n:wG M (.d .none) false
 | b {k:Bool}:wG M (.d (.bool k)) k
 | i {k:Int}:wG M (.d (.int k)) (k != 0)
 | s {z:Str} (h:z.length<=sizeLine):wG M (.d (.str z)) ((z.length:Int) != 0)
 | l {ds:List PyData}:wG M (.d (.list ds)) (!ds.isEmpty)
 | t {ds:List PyData}:wG M (.d (.tuple ds)) (!ds.isEmpty)
 | m {a:Addr} {ws:List W} (h:M a=some (.lst ws)):wG M (.m a) (!ws.isEmpty)
 | dk {a:Addr} {kvs:List (Key×W)} (h:M a=some (.dic kvs)):wG M (.m a) (!kvs.isEmpty)
theorem gZ {α β:Type}{xs:List α}{ys:List β}(h:xs.length=ys.length):xs.isEmpty=ys.isEmpty:=by
 cases xs <;> cases ys <;> simp at h ⊢
theorem wG.sound {H:Hp}{M:MH}{w:W}{b:Bool}{x:V}(g:wG M w b)(r:az K H w x)(m:cm K H M):agc K x H b:=by
 cases g with
 | n=>simp only [az,ay] at r; subst r; rfl
 | b=>simp only [az,ay] at r; subst r; rfl
 | i=>simp only [az,ay] at r; subst r; rfl
 | s h=>simp only [az,ay] at r; subst r; exact ⟨h,rfl⟩
 | l =>
  simp only [az,ay] at r
  obtain ⟨a,vs,e,hs,ra⟩:=r
  subst e
  exact .inl ⟨vs,hs.sq,by rw [gZ ra.length]⟩
 | t =>
  simp only [az,ay] at r
  obtain ⟨a,vs,e,hs,ra⟩:=r
  subst e
  exact .inr (.inl ⟨vs,hs,by rw [gZ ra.length]⟩)
 | m h =>
  obtain ⟨vs,e,ra⟩:=m _ _ h
  have r':x=.ref _:=r
  subst r'
  exact .inl ⟨vs,.inl (.inl e),by rw [gZ ra.length]⟩
 | dk h =>
  obtain ⟨l,e,pr⟩:=m _ _ h
  have r':x=.ref _:=r
  subst r'
  exact .inr (.inr ⟨l,e,by rw [gZ (jq pr)]⟩)
def afl (ta:TD)(τ:DS)(M:MH)(Q:Bool->MH->Prop):Prop:=ta τ M λ w M1=>∃ b,wG M1 w b/\Q b M1
theorem g8 {a:Expr}{ta:TD}(ha:PD X a ta)(he:∀ whole:Sem Value,PySem.isTrue a X.env whole=(do let v <- whole; standAt a.pos; holding [v] (truthy v)):=by intro _; rfl):PTd X a (afl ta) :=
 abL (zJ ha he) λ σ H Q h=>by
  obtain ⟨τ,M,Qd,A,h,k⟩:=h
  exact ⟨τ,M,_,A,h,λ v H' w M' kp r m ⟨b,g,q⟩=>⟨b,g.sound r m,k b H' M' kp m q⟩⟩
def zQ (ws:List W)(M:MH)(Q:QD):Prop:=∃ i j,ws=[.d (.int i),.d (.int j)]/\Q (.d (.int (if j > i then j else i))) M
theorem aby:gf K (λ xs H Q=>∃ i j,xs=[V.int i,V.int j]/\Q (V.int (if j > i then j else i)) H) zQ:=by
 intro vs H ws M Qd Q r m ⟨i,j,e,q⟩ k
 subst e
 obtain ⟨v,v',e1,r1,r2⟩:=xB r
 simp only [az,ay] at r1 r2
 subst r1 r2
 exact ⟨i,j,e1,k _ H (.d (.int _)) M (Kp.refl H) (by simp [az,ay]) m q⟩
end
end D
namespace D
open PySem PySem.Spec PyProof.Rows L2
theorem tw:∀ {ns:List Int} {its:List Value},Vals (ns.map V.int) its->∃ xs:List (Int×Tok),its=xs.map (λ p=>Value.int p.1 p.2)/\xs.map (·.1)=ns
 | [],its,h=>by cases h; exact ⟨[],rfl,rfl⟩
 | n :: ns,its,h=>by
  cases h with
  | cons r t =>
   obtain ⟨tk,e⟩:=(show ∃ t,_=Value.int n t from r)
   obtain ⟨xs,e1,e2⟩:=tw t
   exact ⟨(n,tk) :: xs,by rw [e,e1]; rfl,by rw [List.map_cons,e2]⟩
section
variable {X:Cx}{K:PySem.W.Frag}
def aeW (K:PySem.W.Frag):R2:=λ x y H Q=>∃ l b xs zs,x=.ref l/\y=.ref b/\SqL K H l xs/\SqL K H b zs/\xs.length+zs.length<=sizeLine/\∀ p,H p=none->Q (.ref p) (upd H p (.lst (xs++zs)))
theorem qf:OpR X (binaryOp .Add) (aeW X.K):=by
 intro pins s σ H x y v u Q I rx ry h
 obtain ⟨l,b,xs,zs,rfl,rfl,h1,h2,hz,q⟩:=h
 cases rx
 cases ry
 obtain ⟨its,r1,p1,_⟩:=I.list h1
 obtain ⟨its2,r2,p2,_⟩:=I.list h2
 have t1:=p1.isList.typeIs (s:=s)
 have t2:=p2.isList.typeIs (s:=s)
 obtain ⟨⟨oc,od,odt,osl⟩,n,e1,c1,d1,g1⟩:=p1
 obtain ⟨⟨oc2,od2,odt2,osl2⟩,n2,e2,c2,d2,g2⟩:=p2
 dsimp only at c1 d1 g1 c2 d2 g2
 subst c1 d1 g1 c2 d2 g2
 have hl1:=r1.length
 have hl2:=r2.length
 refine wpAny_binaryOp_concat (T := "list") t1 t2 noFill_list_add seq_list_add ?_
 refine call_meets PySem.F.slot_list_add t1 PySem.F.entry_list_add (PySem.F.args_list_add_2 _ _) (list_addW l b its.toArray its2.toArray n n2 none none osl osl2 (by simp only [List.size_toArray]; omega)) ⟨e1,e2,?_⟩
 have ea:its.toArray++its2.toArray=(its++its2).toArray:=by simp
 rw [ea]
 exact ⟨.ref _,_,I.ahH (t':=s.toks) (r1.append r2) (by rw [List.length_append]; omega),rfl,q _ I.fresh⟩
inductive abV (M:MH):W->List PyData->Prop
 | d {ds:List PyData}:abV M (.d (.list ds)) ds
 | m {a:Addr} {ds:List PyData} (h:M a=some (.lst (ds.map W.d))):abV M (.m a) ds
theorem abV.sound {H:Hp}{M:MH}{w:W}{ds:List PyData}{x:V}(g:abV M w ds)(r:az K H w x)(m:cm K H M):∃ p ys,x=.ref p/\SqL K H p ys/\bj K H ds ys:=by
 cases g with
 | d =>
  simp only [az,ay] at r
  obtain ⟨a,vs,e,hs,ra⟩:=r
  exact ⟨a,vs,e,hs.sq,ra⟩
 | m h =>
  obtain ⟨vs,e,ra⟩:=m _ _ h
  exact ⟨_,vs,r,.inl (.inl e),ra.data⟩
def afc (ta tb:TD)(τ:DS)(M:MH)(Q:QD):Prop:=ta τ M λ w M1=>tb τ M1 λ w' M2=>∃ xs ys,abV M2 w xs/\abV M2 w' ys/\xs.length+ys.length<=sizeLine/\Q (.d (.list (xs++ys))) M2
theorem sj {a b:Expr}{pos:Pos}{ta tb:TD}(ha:PD X a ta)(hb:PD X b tb):PD X (.BinOp a .Add b pos) (afc ta tb):=eO (sQ (aeU qf ha hb)) λ σ H Q h=>by
 obtain ⟨τ,M,Qd,A,h,k⟩:=h
 refine ⟨τ,M,_,A,h,λ x H1 w M1 kp1 r1 m1 q1=>⟨τ,M1,_,A.go kp1 m1,q1,λ y H2 w' M2 kp2 r2 m2 hq76=>?_⟩⟩
 obtain ⟨xs,ys,g1,g2,hz,q⟩:=hq76
 obtain ⟨p,vs,e1,s1,ra1⟩:=g1.sound (r1.keep kp2) m2
 obtain ⟨p',vs',e2,s2,ra2⟩:=g2.sound r2 m2
 refine ⟨p,p',vs,vs',e1,e2,s1,s2,by rw [ra1.length,ra2.length]; exact hz,λ c hc=>?_⟩
 exact nY hc (ra1.append ra2) m2 q (kgo (kgo k kp1) kp2)
theorem oE {H:Hp}:∀ {ns:List Int} {vs:List V},bj K H (ns.map PyData.int) vs->vs=ns.map V.int
 | [],vs,h=>by simpa [bj] using h
 | n :: ns,vs,h=>by
  simp only [List.map_cons,bj] at h
  obtain ⟨v,r,e,h1,h2⟩:=h
  simp only [ay] at h1
  rw [e,h1,oE h2]
  rfl
end
abbrev aaJ:=List W->DS->MH->(DS->MH->Prop)->Prop
def ahd (K:PySem.W.Frag)(g:aaJ):TGs:=λ vs σ H Q=>∃ ws τ M Qd,aJ K H ws vs/\Abs K H σ τ M/\g ws τ M Qd/\∀ σ' H' τ' M',Kp H H'->Abs K H' σ' τ' M'->Qd τ' M'->Q σ' H'
abbrev aay (X:Cx)(es:List Expr)(g:aaJ):Prop:=PGs X es (ahd X.K g)
theorem aeX {X:Cx}{es:List Expr}{g g':TGs}(h:PGs X es g)(k:∀ v σ H Q,g' v σ H Q->g v σ H Q):PGs X es g':=λ pins s σ H v u Q I r q=>h pins s σ H v u Q I r (k v σ H Q q)
section
variable {X:Cx}{pos:Pos}{e:Expr}{es:List Expr}
def ip (ws:List W)(τ:DS)(M:MH)(Q:DS->MH->Prop):Prop:=ws=[]/\Q τ M
def bU (g:TGd)(gs:aaJ)(ws:List W)(τ:DS)(M:MH)(Q:DS->MH->Prop):Prop:=∃ w r,ws=w :: r/\g w τ M λ τ' M'=>gs r τ' M' Q
theorem cu:aay X [] ip:=aeX ab8 λ vs σ H Q hq77=>by
 obtain ⟨ws,τ,M,Qd,r,A,⟨e,q⟩,k⟩:=hq77
 subst e
 cases r
 exact ⟨rfl,k σ H τ M (Kp.refl H) A q⟩
theorem aI {g:TGd}{gs:aaJ}(h1:PGd X e g)(h2:aay X es gs)(hs:(assignEach (e :: es) X.env).map (·.2)=assign e X.env :: (assignEach es X.env).map (·.2):=by rfl):aay X (e :: es) (bU g gs) :=
 aeX (yN h1 h2 hs) λ vs σ H Q hq78=>by
  obtain ⟨ws,τ,M,Qd,r,A,⟨w,wr,ew,q⟩,k⟩:=hq78
  subst ew
  cases r with
  | cons r1 r2 =>
   refine ⟨_,_,rfl,w,τ,M,_,r1,A,q,λ σ1 H1 τ1 M1 kp1 A1 q1=>?_⟩
   exact ⟨wr,τ1,M1,Qd,aJ.keep kp1 r2,A1,q1,λ σ2 H2 τ2 M2 kp2 A2 q2=>k σ2 H2 τ2 M2 (kp1.trans kp2) A2 q2⟩
def gT (n:Nat)(gs:aaJ)(w:W)(τ:DS)(M:MH)(Q:DS->MH->Prop):Prop:=∃ ds,w=.d (.tuple ds)/\ds.length=n/\gs (ds.map W.d) τ M Q
theorem cS {k n:Nat}{gs:aaJ}(hc:X.calm=true)(h:aay X es gs)(hn:(assignEach es X.env).length=n:=by rfl)(hst:(assignEach es X.env).findIdx? (·.1)=none:=by rfl):PGd X (.Tuple es k pos) (gT n gs) :=
 afA (adM hc h hn hst) λ v σ H Q hq79=>by
  obtain ⟨w,τ,M,Qd,r,A,⟨ds,ew,hl,q⟩,kk⟩:=hq79
  subst ew
  simp only [az,ay] at r
  obtain ⟨a,vs,ev,hs,ra⟩:=r
  exact ⟨a,vs,ev,hs,by rw [ra.length]; exact hl,ds.map W.d,τ,M,Qd,ra.ws,A,q,kk⟩
def sx (trs:List (TD×TD))(τ:DS)(M:MH)(Q:QD):Prop:=∀ p,M p=none->xU trs τ (aK M p (.dic [])) λ ps M2=>M2 p=some (.dic [])/\∃ kvs:List (Key×W),ps=kvs.map (λ q=>(kW q.1,q.2))/\kvs.length<=15/\(kvs.map (·.1)).Nodup /\
 Q (.m p) (aK M2 p (.dic kvs))
theorem lM {K:PySem.W.Frag}{H:Hp}:∀ {kvs:List (Key×W)} {ps:List (V×V)},Paired (λ (p:W×W) (q:V×V)=>az K H p.1 q.1/\az K H p.2 q.2) (kvs.map λ q=>(kW q.1,q.2)) ps ->
  ∃ l:List (Key×V),ps=l.map (λ kv=>(kV kv.1,kv.2))/\l.map (·.1)=kvs.map (·.1)/\Paired (λ (p:Key×W) (q:Key×V)=>p.1=q.1/\az K H p.2 q.2) kvs l
 | [],ps,h=>by cases h; exact ⟨[],rfl,rfl,.nil⟩
 | (k,d) :: kvs,ps,h=>by
  cases h with
  | cons r t =>
   rename_i q qs
   obtain ⟨x,y⟩:=q
   obtain ⟨l,e1,e2,e3⟩:=lM t
   refine ⟨(k,y) :: l,?_,by simp [e2],.cons ⟨rfl,r.2⟩ e3⟩
   rw [List.map_cons,<- e1,<- hZ r.1]
theorem jd {keys:List (Option Expr)}{values:List Expr}{trs:List (TD×TD)}(h:PPs X pos keys values (trs.map λ p=>(up X.K p.1,up X.K p.2)))(hall:keys.all (·.isSome)=true:=by rfl)(hl:keys.length=values.length:=by rfl)(h0:keys≠[]:=by simp)
  (h15:keys.length<=15:=by decide):PD X (.Dict keys values pos) (sx trs):=eO (abl h hall hl h0 h15) λ σ H Q ⟨τ,M,Qd,A,q,k⟩=>λ p hp=>by
 have kp0:Kp H (upd H p (.dK [])):=Kp.new hp
 have m0:cm X.K (upd H p (.dK [])) (aK M p (.dic [])):=A.mem.put (mo:=.dic []) kp0 ⟨[],au,.nil⟩
 have hM:=A.mem.free hp
 refine pH (A.go kp0 m0) (q p hM) λ ps H2 ws M2 kp2 r2 m2 hq80=>?_
 obtain ⟨eM,kvs,ews,hlen,hnd,qq⟩:=hq80
 subst ews
 obtain ⟨l0,e0,pr0⟩:=m2 p _ eM
 have el0:l0=[]:=by cases pr0; rfl
 subst el0
 obtain ⟨l,e1,e2,e3⟩:=lM r2
 have elen:l.length=kvs.length:=by
  have:=congrArg List.length e2
  simpa using this
 refine ⟨e0,l,e1,by omega,?_⟩
 have em:fu [] l=l:=by rw [lI (by simpa [e2] using hnd)]; rfl
 rw [em]
 have kp3:Kp H2 (upd H2 p (.dK l)):=Kp.set e0 (λ xs z=>nomatch z) λ _ _ z=>nomatch z
 exact k _ _ (.m p) _ ((kp0.trans kp2).trans kp3) rfl (m2.put (mo:=.dic kvs) kp3 ⟨l,au,Paired.je e3 λ p q z=>⟨z.1,z.2.keep kp3⟩⟩) qq
end
end D
namespace D
open PySem PySem.Spec PyProof.Rows L2
structure Mf (K:PySem.W.Frag)(C:Addr)(x qual:Str)(st:Stmt)(ps:List Str)(f:Addr)(fd:FuncData):Prop where
 fn:Fun K x qual st f fd
 me:Meth K C x f
 bd:Binds K fd ps []
section
variable {K:PySem.W.Frag}{C:Addr}
theorem aaY {x qual:Str}{st:Stmt}{ps:List Str}{f:Addr}{oc:Value}{od an:Option Addr}{osl:Array (Option Value)}{kV doc pm cdv ct:Value}(a:PySem.W.findIn K (.ref C) x=some (some (.ref f)))(i:PySem.W.isFn K (.ref f)=true)
  (l:K.lookup f=some ⟨oc,od,.func (PySem.W.fnOf x qual (aN st) (aE st) (ai st) .none kV doc pm an cdv ct),osl⟩)(c:PySem.W.codeIn K cdv qual=true)(k:PySem.W.keepIn K (.ref f)=true)
  (b:∀ (kV doc pm:Value) (an:Option Addr) (cdv ct:Value) (us:List Value),us.length=ps.length->bindArgs (PySem.W.fnOf x qual (aN st) (aE st) (ai st) .none kV doc pm an cdv ct) ⟨us,[]⟩=pure (ps.zip us)) :
  Mf K C x qual st ps f (PySem.W.fnOf x qual (aN st) (aE st) (ai st) .none kV doc pm an cdv ct) :=
 have F:=yo (st:=st) l c k
 ⟨F,⟨a,i,k⟩,F.binds b⟩
end
section
variable {X:Cx}{pos p:Pos}{e:Expr}{es:List Expr}{t:TAd}{x:Str}{T:String}{r:List V->Hp->VK->Prop}{rd:List W->MH->QD->Prop}
theorem pcT (hc:dY X (.type T) r)(hd:gf X.K r rd)(hg:Gl X x)(hm:X.mg x=none)(hv:bootBuiltins x=some (.type T))(ha:PAd X (e :: es) t)(hn:x ≠ "__name__" := by decide)(hdb:(x == ("__debug__" : Str))=false:=by decide)
  (h1:df e=false:=by rfl)(h2:(es.all λ e=>!df e)=true:=by rfl):PD X (.Call (.Name x p) (e :: es) [] pos) (dCB rd t):=vt hc hd hg hm hv ha hn hdb (bK e es X.env h1) (cE pos X.env es h2)
end
theorem ae3:bootBuiltins "max" = some (.builtin "max"):=by decide +kernel
end D
namespace D
open PySem PySem.Spec PyProof.Rows L2
namespace Q
section
variable {X:Cx}{o i e f:Expr}{pos apos cpos:Pos}{td ty tx:TE}
end
section
variable {X:Cx}{o i e f value:Expr}{es:List Expr}{pos pos' apos cpos:Pos}{td ti tx tv:TD}{t:TAd}
theorem fO  : Jd (PD X (.Dict [] [] pos) iy):=⟨D.fO ⟩
theorem rD (hu:X.A.units+1 < cLine)(hi:Jd (PD X i ti))(ho:Jd (PD X o td))(hm:behindInMarks .In o=false:=by rfl):Jd (PTd X (.Compare i [.In] [o] pos) (bf (afe ti td))):=⟨D.rD (hu:=hu) (hi:=hi.h) (ho:=ho.h) (hm:=hm)⟩
theorem fX (hu:X.A.units+1 < cLine)(hi:Jd (PD X i ti))(ho:Jd (PD X o td))(hm:behindInMarks .NotIn o=false:=by rfl):Jd (PTd X (.Compare i [.NotIn] [o] pos) (bf (jZ ti td))):=⟨D.fX (hu:=hu) (hi:=hi.h) (ho:=ho.h) (hm:=hm)⟩
theorem bp (hu:X.A.units+1 < cLine)(ho:Jd (PD X o td))(hi:Jd (PD X i ti))(hs:ae8 i:=by exact λ _ _=>rfl):Jd (PD X (.Subscript o i pos) (dy td ti)):=⟨D.bp (hu:=hu) (ho:=ho.h) (hi:=hi.h) (hs:=hs)⟩
theorem ka (hu:X.A.units+1 < cLine)(ho:Jd (PD X o td))(he:Jd (PD X e ti))(hf:Jd (PD X f tx))(m:M2 X o "get" apos e f cpos:=by exact ⟨rfl,rfl,rfl,rfl⟩):Jd (PD X (.Call (.Attribute o "get" apos) [e,f] [] cpos) (vf td ti tx)):=⟨D.ka (hu:=hu) (ho:=ho.h) (he:=he.h) (hf:=hf.h) (m:=m)⟩
theorem dR (hu:X.A.units+1 < cLine)(ho:Jd (PD X o td))(hi:Jd (PD X i ti))(hv:Jd (PD X value tv))(hs:swapsWith value (some (.Subscript o i pos')) pos.line X.env=pure false:=by rfl):Jd (PSd X (.Assign [.Subscript o i pos'] value pos) (oN td ti tv)):=⟨D.dR (hu:=hu) (ho:=ho.h) (hi:=hi.h) (hv:=hv.h) (hs:=hs)⟩
end
section
variable {X:Cx}{C f:Addr}{o e value:Expr}{es:List Expr}{fn m x:Str}{pos pos' apos p:Pos}{td tv te:TD}{t:TAd}{k:Nat}{fd:FuncData}{ps:List Str}{sp:SpD}
theorem dW (c:Cls X.K C)(n:cy X.K C fn)(he:Jd (PD X e td))(hb:attributeBase e fn X.env (eval e X.env)=eval e X.env:=by rfl):Jd (PD X (.Attribute e fn pos) (sT C td fn)):=⟨D.dW (c:=c) (n:=n) (he:=he.h) (hb:=hb)⟩
theorem eR (c:Cls X.K C)(n:cy X.K C fn)(ha:Jd (PD X o td))(hv:Jd (PD X value tv))(hs:swapsWith value (some (.Attribute o fn pos')) pos.line X.env=pure false:=by rfl):Jd (PSd X (.Assign [.Attribute o fn pos'] value pos) (eU C td tv fn)):=⟨D.eR (c:=c) (n:=n) (ha:=ha.h) (hv:=hv.h) (hs:=hs)⟩
theorem ng {pl:Sem Bool}(he:Jd (PD X o td))(c:Cls X.K C)(hm:Meth X.K C m f)(F:bV X.prog X.w X.K X.mg X.base CX0 k f fd ps (de X.K sp))(hr:cG k X.A)(hb:Binds X.K fd ps [])(ha:Jd (PAd X (e :: es) t))(ht:eval (.Call (.Attribute o m apos) (e :: es) [] pos) X.env=(do
   let ov <- eval o X.env
   standAt apos.atName
   let (f,first) <- holding [ov] (getMethod ov m pl)
   callWith pos f first (backTo pos (starEach (e :: es) X.env)) (backToKw pos (keywordEach [] X.env))):=by rfl)(h1:df e=false:=by rfl)(h2:(es.all λ e=>!df e)=true:=by rfl):Jd (PD X (.Call (.Attribute o m apos) (e :: es) [] pos) (i9 C m sp td t)):=⟨D.ng (he:=he.h) (c:=c) (hm:=hm) (F:=F) (hr:=hr) (hb:=hb) (ha:=ha.h) (ht:=ht) (h1:=h1) (h2:=h2)⟩
theorem fj {pl:Sem Bool}(he:Jd (PD X o td))(c:Cls X.K C)(hm:Meth X.K C m f)(F:bV X.prog X.w X.K X.mg X.base CX0 k f fd ps (de X.K sp))(hr:cG k X.A)(hb:Binds X.K fd ps [])(ht:eval (.Call (.Attribute o m apos) [] [] pos) X.env=(do
   let ov <- eval o X.env
   standAt apos.atName
   let (f,first) <- holding [ov] (getMethod ov m pl)
   callWith pos f first (backTo pos (starEach [] X.env)) (backToKw pos (keywordEach [] X.env))):=by rfl):Jd (PD X (.Call (.Attribute o m apos) [] [] pos) (i9 C m sp td aP)):=⟨D.fj (he:=he.h) (c:=c) (hm:=hm) (F:=F) (hr:=hr) (hb:=hb) (ht:=ht)⟩
theorem nu (Mk':Mk X.K C f)(F:bV X.prog X.w X.K X.mg X.base CX0 k f fd ps (de X.K sp))(hr:cG (k+1) X.A)(hg:Gl X x)(hm:X.mg x=some (.ref C))(hb:Binds X.K fd ps [])(ha:Jd (PAd X (e :: es) t))(hdb:(x == ("__debug__" : Str))=false:=by decide)(h1:df e=false:=by rfl)(h2:(es.all λ e=>!df e)=true:=by rfl):Jd (PD X (.Call (.Name x p) (e :: es) [] pos) (zi C sp t)):=⟨D.nu (Mk':=Mk') (F:=F) (hr:=hr) (hg:=hg) (hm:=hm) (hb:=hb) (ha:=ha.h) (hdb:=hdb) (h1:=h1) (h2:=h2)⟩
end
section
variable {X:Cx}{o e:Expr}{pos apos cpos:Pos}{td te:TD}
theorem eW (h:Jd (PD X e td)):Jd (PD X e (jn td)):=⟨D.eW (h:=h.h)⟩
theorem hG (ho:Jd (PD X o td))(he:Jd (PD X e te))(hbase:attributeBase o "append" X.env (eval o X.env)=eval o X.env:=by rfl)(hfew:((backTo cpos (starEach [e] X.env)).all (λ x=>!x.1) && (backToKw cpos (keywordEach [] X.env)).all (λ x=>x.1.isSome)
   && decide (([e]:List Expr).length+([]:List Keyword).length+(if ([]:List Keyword).isEmpty then 0 else 1) < 30))=true:=by rfl)(hline:(apos.endLine == cpos.line)=true:=by rfl)(hs:df e=false:=by rfl):Jd (PD X (.Call (.Attribute o "append" apos) [e] [] cpos) (ml td te)):=⟨D.hG (ho:=ho.h) (he:=he.h) (hbase:=hbase) (hfew:=hfew) (hline:=hline) (hs:=hs)⟩
theorem iE (ho:Jd (PD X o td))(hbase:attributeBase o "reverse" X.env (eval o X.env)=eval o X.env:=by rfl)(hline:(apos.endLine == cpos.line)=true:=by rfl):Jd (PD X (.Call (.Attribute o "reverse" apos) [] [] cpos) (mI td)):=⟨D.iE (ho:=ho.h) (hbase:=hbase) (hline:=hline)⟩
end
section
variable {X:Cx}{pins:List (Addr×Obj)}{σ:St}{H:Hp}{s:Shared}
end
section
variable {X:Cx}
end
section
variable {X:Cx}{K:PySem.W.Frag}
theorem g8 {a:Expr}{ta:TD}(ha:Jd (PD X a ta))(he:∀ whole:Sem Value,PySem.isTrue a X.env whole=(do let v <- whole; standAt a.pos; holding [v] (truthy v)):=by intro _; rfl):Jd (PTd X a (afl ta)):=⟨D.g8 (ha:=ha.h) (he:=he)⟩
end
section
variable {X:Cx}{K:PySem.W.Frag}
theorem sj {a b:Expr}{pos:Pos}{ta tb:TD}(ha:Jd (PD X a ta))(hb:Jd (PD X b tb)):Jd (PD X (.BinOp a .Add b pos) (afc ta tb)):=⟨D.sj (ha:=ha.h) (hb:=hb.h)⟩
end
section
variable {X:Cx}{pos:Pos}{e:Expr}{es:List Expr}
theorem cu  : Jd (aay X [] ip):=⟨D.cu ⟩
theorem aI {g:TGd}{gs:aaJ}(h1:Jd (PGd X e g))(h2:Jd (aay X es gs))(hs:(assignEach (e :: es) X.env).map (·.2)=assign e X.env :: (assignEach es X.env).map (·.2):=by rfl):Jd (aay X (e :: es) (bU g gs)):=⟨D.aI (h1:=h1.h) (h2:=h2.h) (hs:=hs)⟩
theorem cS {k n:Nat}{gs:aaJ}(hc:X.calm=true)(h:Jd (aay X es gs))(hn:(assignEach es X.env).length=n:=by rfl)(hst:(assignEach es X.env).findIdx? (·.1)=none:=by rfl):Jd (PGd X (.Tuple es k pos) (gT n gs)):=⟨D.cS (hc:=hc) (h:=h.h) (hn:=hn) (hst:=hst)⟩
theorem jd {keys:List (Option Expr)}{values:List Expr}{trs:List (TD×TD)}(h:Jd (PPs X pos keys values (trs.map (pm X.K))))(hall:keys.all (·.isSome)=true:=by rfl)(hl:keys.length=values.length:=by rfl)(h0:keys≠[]:=by simp)(h15:keys.length<=15:=by decide):Jd (PD X (.Dict keys values pos) (sx trs)):=⟨D.jd (h:=h.h) (hall:=hall) (hl:=hl) (h0:=h0) (h15:=h15)⟩
end
section
variable {K:PySem.W.Frag}{C:Addr}
end
section
variable {X:Cx}{pos p:Pos}{e:Expr}{es:List Expr}{t:TAd}{x:Str}{T:String}{r:List V->Hp->VK->Prop}{rd:List W->MH->QD->Prop}
theorem pcT (hc:dY X (.type T) r)(hd:gf X.K r rd)(hg:Gl X x)(hm:X.mg x=none)(hv:bootBuiltins x=some (.type T))(ha:Jd (PAd X (e :: es) t))(hn:x ≠ "__name__" := by decide)(hdb:(x == ("__debug__" : Str))=false:=by decide)(h1:df e=false:=by rfl)(h2:(es.all λ e=>!df e)=true:=by rfl):Jd (PD X (.Call (.Name x p) (e :: es) [] pos) (dCB rd t)):=⟨D.pcT (hc:=hc) (hd:=hd) (hg:=hg) (hm:=hm) (hv:=hv) (ha:=ha.h) (hn:=hn) (hdb:=hdb) (h1:=h1) (h2:=h2)⟩
end
end Q
end D
namespace D
open PySem PySem.Spec PyProof.Rows L2
@[simp] theorem aeg (i j:Int):dO (.int i) (.int j)=true:=rfl
@[simp] theorem aeV (x y:Str):dO (.str x) (.str y)=true:=rfl
@[simp] theorem acU (x y:Bool):dO (.bool x) (.bool y)=true:=rfl
@[simp] theorem agb (i j:Int):PyData.eqv (.int i) (.int j)=(i == j):=by rw [PyData.eqv]
@[simp] theorem af3 (i j:Str):PyData.eqv (.str i) (.str j)=(i == j):=by rw [PyData.eqv]
@[simp] theorem agU (a:Addr):yz (.m a)=true:=rfl
@[simp] theorem adm (ds:List PyData):yz (.d (.list ds))=true:=rfl
@[simp] theorem acQ (ds:List PyData):yz (.d (.tuple ds))=true:=rfl
@[simp] theorem afg (n:Nat):ixN (n+1) 0=some 0:=by unfold ixN; simp
theorem zP {α:Type}{xs:List α}{i:Int}(h0:0<=i)(h1:i < xs.length):atI xs i=some (xs[i.toNat]'(by omega)):=by
 unfold atI ixN
 rw [if_pos h0,if_pos h1]
 simp
inductive Bag (M:MH) (p:Addr):Prop
 | mk (a b c:Int) (ns:List Int) (e:M p=some (.lst [.d (.int a),.d (.int b),.d (.int c),.d (.list (ns.map PyData.int))])) (z:0<=a/\0<=b/\b < 2147483647/\0<=c/\(∀ n∈ns,0<=n)):Bag M p
def dU:SpD:=λ ws M Q=>∃ ns:List Int,ws=[.d (.list (ns.map PyData.int))]/\ns.length<=1000/\∀ p M',M p=none->(∀ q,q≠p->M' q=M q)->Bag M' p->Q (.m p) M'
inductive oz (ws:List W) (M:MH) (Q:QD):Prop
 | mk (p:Addr) (n:Int) (z0:ws=[.m p,.d (.int n)]) (z1:Bag M p) (z2:0 < n) (z3:n < 1073741824) (z4:∀ (r:Int) M',0<=r->r < n->Bag M' p->(∀ q,q≠p->M' q=M q)->Q (.d (.int r)) M'):oz ws M Q
def ax:SpD:=oz
theorem v9:∀ ws M Q,dU ws M Q->ws.length=1:=by rintro ws M Q ⟨ns,rfl,_⟩; rfl
theorem uL:∀ ws M Q,ax ws M Q->ws.length=2:=by rintro ws M Q ⟨p,n,rfl,_⟩; rfl
theorem vo {n:Nat}{i:Int}(h0:0<=i)(h1:i < n):ixN n i=some i.toNat:=by unfold ixN; rw [if_pos h0,if_pos h1]
theorem oh {M:MH}{p:Addr}{ws:List W}{i:Int}{x:W}(hm:M p=some (.lst ws))(h:atI ws i=some x):ixW M (.m p) i=some x:=by
 simp only [ixW,hm]; exact h
theorem g9 {c:Bool}{A B:Prop}(h1:c=true->A)(h2:c=false->B):if c=true then A else B:=by
 cases c with
 | true=>rw [if_pos rfl]; exact h1 rfl
 | false=>rw [if_neg Bool.false_ne_true]; exact h2 rfl
end D
namespace D
open PySem PySem.Spec PyProof.Rows L2
abbrev vd:List Str:=["_law_script"]
def vV:TSd :=
  dN (kZ (aj (dC (.d (.int 0))) (aj (dC (.d (.int 1234567891))) (aj (dC (.d (.int 0))) (aj (dLC (cK (dSl (ar 0) (eS) (nH (dC (.d (.int 63)))))) (gN 0) (qt) (dCB aez (aj (ar 0) (aP))) 1 []) (aP))))))
abbrev si:List Str:=["_law_bag_here", "_law_many", "_law_cell", "_law_value", "_law_first", "_law_second"]
def tK:TSd :=
  bh (dIf (bf (dOp agP (dOp dJ (ar 0) (dC (.d (.int 0)))) (dC (.d (.int 0)))))
   (bh (cA (dC (.d (.int 0))) (gN 2)) <|
   bh (dIf (bf (dOp afj (dOp dJ (ar 0) (dC (.d (.int 2)))) (dCB qo (aj (dOp dJ (ar 0) (dC (.d (.int 3)))) (aP)))))
    (cA (dOp dJ (dOp dJ (ar 0) (dC (.d (.int 3)))) (dOp dJ (ar 0) (dC (.d (.int 2))))) (gN 2))
    (cB)) <|
   bh (zx (ar 0) (dC (.d (.int 2))) (dC (.d (.int 1))) (λ i j=>i+j)) <|
   bh (dIf (bf (dOp afa (ar 2) (dC (.d (.int 1000000000000000000)))))
    (cA (ar 2) (yv (ar 0) (dC (.d (.int 0)))))
    (cB)) <|
   cA (dOp d9 (dOp dG (dOp dG (dOp fw (dOp dJ (ar 0) (dC (.d (.int 1)))) (dC (.d (.int 48271)))) (dOp d9 (ar 2) (dC (.d (.int 2147483647))))) (dOp fw (dC (.d (.int 7919))) (dOp dJ (ar 0) (dC (.d (.int 2)))))) (dC (.d (.int 2147483647)))) (yv (ar 0) (dC (.d (.int 1)))))
   (cB)) <|
  bh (dIf (bf (dOp acK (dOp dJ (ar 0) (dC (.d (.int 0)))) (dC (.d (.int 0)))))
   (bh (cA (dOp d9 (dOp dJ (ar 0) (dC (.d (.int 0)))) (ar 1)) (gN 3)) <|
   bh (cA (dOp qg (dOp dJ (ar 0) (dC (.d (.int 0)))) (ar 1)) (yv (ar 0) (dC (.d (.int 0))))) <|
   dN (ar 3))
   (cB)) <|
  bh (cA (dOp d9 (dOp fw (dOp dG (dOp dJ (ar 0) (dC (.d (.int 1)))) (dC (.d (.int 1)))) (dC (.d (.int 39373)))) (dC (.d (.int 1000000007)))) (gN 4)) <|
  bh (cA (dOp d9 (dOp fw (dOp d9 (dOp fw (ar 4) (ar 4)) (dC (.d (.int 998244353)))) (dC (.d (.int 30011)))) (dC (.d (.int 998244353)))) (gN 5)) <|
  bh (dIf (bf (dOp acK (ar 1) (dC (.d (.int 1000000)))))
   (dN (dOp d9 (dOp dG (dOp fw (ar 5) (dC (.d (.int 1000000007)))) (ar 4)) (ar 1)))
   (cB)) <|
  dN (dOp d9 (dOp qg (ar 5) (dC (.d (.int 7)))) (ar 1))
abbrev y9 (a b c:Int)(ns:List Int):List W:=[.d (.int a),.d (.int b),.d (.int c),.d (.list (ns.map PyData.int))]
theorem ir {M:MH}{Q:QD}{p:Addr}{n:Int}{a b c:Int}{ns:List Int}{x:Option W}(hm:M p=some (.lst (y9 a b c ns)))(ha:0<=a)(hb:0<=b)(hb2:b < 2147483647)(hc:0<=c)(hns:∀ n∈ns,0<=n)(hn:0 < n)(hn2:n < 1073741824)
  (k:∀ (r:Int) M',0<=r->r < n->Bag M' p->(∀ q,q≠p->M' q=M q)->Q (.d (.int r)) M'){D:Ed}(hD:D.rt=Q) :
  (bh (dIf (bf (dOp acK (dOp dJ (ar 0) (dC (.d (.int 0)))) (dC (.d (.int 0)))))
   (bh (cA (dOp d9 (dOp dJ (ar 0) (dC (.d (.int 0)))) (ar 1)) (gN 3)) <|
   bh (cA (dOp qg (dOp dJ (ar 0) (dC (.d (.int 0)))) (ar 1)) (yv (ar 0) (dC (.d (.int 0))))) <|
   dN (ar 3))
   (cB)) <|
  bh (cA (dOp d9 (dOp fw (dOp dG (dOp dJ (ar 0) (dC (.d (.int 1)))) (dC (.d (.int 1)))) (dC (.d (.int 39373)))) (dC (.d (.int 1000000007)))) (gN 4)) <|
  bh (cA (dOp d9 (dOp fw (dOp d9 (dOp fw (ar 4) (ar 4)) (dC (.d (.int 998244353)))) (dC (.d (.int 30011)))) (dC (.d (.int 998244353)))) (gN 5)) <|
  bh (dIf (bf (dOp acK (ar 1) (dC (.d (.int 1000000)))))
   (dN (dOp d9 (dOp dG (dOp fw (ar 5) (dC (.d (.int 1000000007)))) (ar 4)) (ar 1)))
   (cB)) <|
  dN (dOp d9 (dOp qg (ar 5) (dC (.d (.int 7)))) (ar 1))) D [some (.m p),some (.d (.int n)),x,none,none,none] M:=by
 subst hD
 have i0:ixW M (.m p) 0=some (.d (.int a)):=oh hm rfl
 have i1:ixW M (.m p) 1=some (.d (.int b)):=oh hm rfl
 have same:Bag M p:=⟨a,b,c,ns,hm,ha,hb,hb2,hc,hns⟩
 refine ⟨_,rfl,_,_,rfl,i0,rfl,_,_,rfl,rfl,_,rfl,?_⟩
 refine g9 (λ h=>?_) (λ h=>?_)
 ·have h0:0 < a:=of_decide_eq_true h
  refine ⟨_,rfl,_,_,rfl,i0,rfl,_,rfl,_,_,rfl,rfl,hn,?_⟩
  refine ⟨_,rfl,_,_,rfl,i0,rfl,_,rfl,_,_,rfl,rfl,⟨hn,hn2⟩,?_⟩
  refine ⟨_,rfl,_,_,_,_,rfl,rfl,hm,rfl,?_⟩
  refine ⟨_,rfl,?_⟩
  refine k _ _ (Int.emod_nonneg _ (by omega)) (Int.emod_lt_of_pos _ hn) ⟨a / n,b,c,ns,aa,Int.ediv_nonneg ha (by omega),hb,hb2,hc,hns⟩ λ q hq=>ah hq
 ·refine ⟨_,rfl,_,_,rfl,i1,rfl,.inl ?_⟩
  refine ⟨_,_,rfl,rfl,_,_,rfl,rfl,.inl ⟨by omega,by omega⟩,_,_,rfl,rfl,(by decide:(0:Int) < 1000000007),?_⟩
  have f0:0<=(b+1) * 39373 % 1000000007:=Int.emod_nonneg _ (by decide)
  have f1:(b+1) * 39373 % 1000000007 < 1000000007:=Int.emod_lt_of_pos _ (by decide)
  refine ⟨_,rfl,_,rfl,_,_,rfl,rfl,.inl ⟨by omega,by omega⟩,_,_,rfl,rfl,(by decide:(0:Int) < 998244353),?_⟩
  have g0:0<=(b+1) * 39373 % 1000000007 * ((b+1) * 39373 % 1000000007) % 998244353:=Int.emod_nonneg _ (by decide)
  have g1:(b+1) * 39373 % 1000000007 * ((b+1) * 39373 % 1000000007) % 998244353 < 998244353:=Int.emod_lt_of_pos _ (by decide)
  refine ⟨_,_,rfl,rfl,.inl ⟨by omega,by omega⟩,_,_,rfl,rfl,(by decide:(0:Int) < 998244353),?_⟩
  have e0:0<=(b+1) * 39373 % 1000000007 * ((b+1) * 39373 % 1000000007) % 998244353 * 30011 % 998244353:=Int.emod_nonneg _ (by decide)
  have e1:(b+1) * 39373 % 1000000007 * ((b+1) * 39373 % 1000000007) % 998244353 * 30011 % 998244353 < 998244353:=Int.emod_lt_of_pos _ (by decide)
  refine ⟨_,rfl,_,_,rfl,rfl,_,rfl,?_⟩
  refine g9 (λ h=>?_) (λ h=>?_)
  ·refine ⟨_,rfl,_,_,rfl,rfl,.inl ⟨by omega,by omega⟩,_,rfl,.inl ⟨_,_,rfl,rfl,_,rfl,_,_,rfl,rfl,hn,?_⟩⟩
   exact k _ _ (Int.emod_nonneg _ (by omega)) (Int.emod_lt_of_pos _ hn) same λ q _=>rfl
  ·refine ⟨_,rfl,_,_,rfl,rfl,⟨by decide,by decide⟩,_,rfl,_,_,rfl,rfl,hn,?_⟩
   exact k _ _ (Int.emod_nonneg _ (by omega)) (Int.emod_lt_of_pos _ hn) same λ q _=>rfl
theorem lG {M:MH}{p:Addr}{n cell:Int}{a b c:Int}{ns:List Int}{D:Ed}(hm:M p=some (.lst (y9 a b c ns)))(ha:0<=a)(hb:0<=b)(hb2:b < 2147483647)(hc:0<=c)(hcell:0<=cell)
  (k:∀ a' b' c' M',0<=a'->0<=b'->b' < 2147483647->0<=c'->M' p=some (.lst (y9 a' b' c' ns))->(∀ q,q≠p->M' q=M q)->D.nx [some (.m p),some (.d (.int n)),some (.d (.int cell)),none,none,none] M') :
  (bh (zx (ar 0) (dC (.d (.int 2))) (dC (.d (.int 1))) (λ i j=>i+j)) <|
   bh (dIf (bf (dOp afa (ar 2) (dC (.d (.int 1000000000000000000)))))
    (cA (ar 2) (yv (ar 0) (dC (.d (.int 0)))))
    (cB)) <|
   cA (dOp d9 (dOp dG (dOp dG (dOp fw (dOp dJ (ar 0) (dC (.d (.int 1)))) (dC (.d (.int 48271)))) (dOp d9 (ar 2) (dC (.d (.int 2147483647))))) (dOp fw (dC (.d (.int 7919))) (dOp dJ (ar 0) (dC (.d (.int 2)))))) (dC (.d (.int 2147483647)))) (yv (ar 0) (dC (.d (.int 1)))))
   D [some (.m p),some (.d (.int n)),some (.d (.int cell)),none,none,none] M:=by
 refine ⟨_,rfl,_,_,_,_,_,rfl,rfl,hm,rfl,rfl,_,rfl,rfl,?_⟩
 have m1:aK M p (.lst (y9 a b (c+1) ns)) p=some (.lst (y9 a b (c+1) ns)):=aa
 have f1:∀ q,q≠p->aK M p (.lst (y9 a b (c+1) ns)) q=M q:=λ q hq=>ah hq
 show (bh _ _) D _ (aK M p (.lst (y9 a b (c+1) ns)))
 generalize aK M p (.lst (y9 a b (c+1) ns))=M1 at m1 f1
 have fin:∀ (a':Int) (M2:MH),0<=a'->M2 p=some (.lst (y9 a' b (c+1) ns))->(∀ q,q≠p->M2 q=M q) ->
   cA (dOp d9 (dOp dG (dOp dG (dOp fw (dOp dJ (ar 0) (dC (.d (.int 1)))) (dC (.d (.int 48271)))) (dOp d9 (ar 2) (dC (.d (.int 2147483647))))) (dOp fw (dC (.d (.int 7919))) (dOp dJ (ar 0) (dC (.d (.int 2)))))) (dC (.d (.int 2147483647)))) (yv (ar 0) (dC (.d (.int 1)))) D [some (.m p),some (.d (.int n)),some (.d (.int cell)),none,none,none] M2:=by
  intro a' M2 ha' m2 f2
  have i1:ixW M2 (.m p) 1=some (.d (.int b)):=oh m2 rfl
  have i2:ixW M2 (.m p) 2=some (.d (.int (c+1))):=oh m2 rfl
  refine ⟨_,rfl,_,_,rfl,i1,rfl,_,_,rfl,rfl,.inl ⟨by omega,by omega⟩,_,rfl,_,_,rfl,rfl,(by decide:(0:Int) < 2147483647),.inl ?_⟩
  refine ⟨_,_,rfl,rfl,_,rfl,_,_,rfl,i2,rfl,_,_,rfl,rfl,.inl ⟨by decide,by decide⟩,.inl ?_⟩
  refine ⟨_,_,rfl,rfl,_,_,rfl,rfl,(by decide:(0:Int) < 2147483647),_,rfl,_,_,_,_,rfl,rfl,m2,rfl,?_⟩
  exact k a' _ (c+1) _ ha' (Int.emod_nonneg _ (by decide)) (Int.emod_lt_of_pos _ (by decide)) (by omega) aa λ q hq=>(ah hq).trans (f2 q hq)
 refine ⟨_,rfl,_,_,rfl,rfl,_,rfl,?_⟩
 refine g9 (λ h=>?_) (λ h=>?_)
 ·refine ⟨_,rfl,_,rfl,_,_,_,_,rfl,rfl,m1,rfl,?_⟩
  exact fin cell _ hcell aa λ q hq=>(ah hq).trans (f1 q hq)
 ·exact fin a M1 ha m1 f1
theorem qz:∀ ws M Q,ax ws M Q->tK { nx:=λ _ M'=>Q (.d .none) M',rt:=Q } (aQ si ws) M:=by
 rintro ws M Q ⟨p,n,rfl,⟨a,b,c,ns,hm,ha,hb,hb2,hc,hns⟩,hn,hn2,k⟩
 have i0:ixW M (.m p) 0=some (.d (.int a)):=oh hm rfl
 have i2:ixW M (.m p) 2=some (.d (.int c)):=oh hm rfl
 have i3:ixW M (.m p) 3=some (.d (.list (ns.map PyData.int))):=oh hm rfl
 refine ⟨_,rfl,_,_,rfl,i0,rfl,_,_,rfl,rfl,rfl,_,rfl,?_⟩
 refine g9 (λ h=>?_) (λ h=>?_)
 ·refine ⟨_,rfl,_,_,rfl,i2,rfl,_,rfl,_,_,rfl,i3,rfl,_,_,rfl,rfl,rfl,_,_,rfl,rfl,_,rfl,?_⟩
  refine g9 (λ h=>?_) (λ h=>?_)
  ·have hlt:c < ((ns.map PyData.int).length:Nat):=of_decide_eq_true h
   have hlt':c.toNat < ns.length:=by rw [List.length_map] at hlt; omega
   have ic:ixW M (.d (.list (ns.map PyData.int))) c=some (.d (.int (ns[c.toNat]'hlt'))):=by
    simp only [ixW]
    rw [zP hc hlt]
    simp
   refine ⟨_,rfl,_,_,rfl,i3,rfl,_,rfl,_,_,rfl,i2,rfl,_,_,rfl,ic,rfl,?_⟩
   refine lG (cell:=ns[c.toNat]'hlt') hm ha hb hb2 hc (hns _ (List.getElem_mem _)) λ a' b' c' M' h1 h2 h3 h4 h5 h6=>?_
   exact ir (x:=some (.d (.int (ns[c.toNat]'hlt')))) h5 h1 h2 h3 h4 hns hn hn2 (λ r M'' r0 r1 bg fr=>k r M'' r0 r1 bg λ q hq=>(fr q hq).trans (h6 q hq)) rfl
  ·refine lG (cell:=0) hm ha hb hb2 hc (Int.le_refl 0) λ a' b' c' M' h1 h2 h3 h4 h5 h6=>?_
   exact ir (x:=some (.d (.int 0))) h5 h1 h2 h3 h4 hns hn hn2 (λ r M'' r0 r1 bg fr=>k r M'' r0 r1 bg λ q hq=>(fr q hq).trans (h6 q hq)) rfl
 ·exact ir (x:=none) hm ha hb hb2 hc hns hn hn2 k rfl
theorem xY {f:W->Option PyData}{ws:List W}{i:Nat}{w:W}(h:ws[i]? = some w):(ws.take (i+1)).filterMap f=(ws.take i).filterMap f++(f w).toList:=by
 rw [List.take_add_one,h,List.filterMap_append]
 cases e:f w <;> simp [e]
theorem aaV {tt:TTd}{te:TD}{fr:List Nat}{τ:DS}{M:MH}{Q:List PyData->MH->Prop}{ws:List W}(f:W->Option PyData)(hl:ws.length<=sizeLine)
  (step:∀ w∈ws,∀ P':Option PyData->Prop,P' (f w)->tt (some w :: fr.map λ j=>(τ[j]?).getD none) M λ b M3=>if b=true then te (some w :: fr.map λ j=>(τ[j]?).getD none) M3 λ y M4=>∃ d,y=.d d/\M4=M/\P' (some d) else M3=M/\P' none)
  (q:Q (ws.filterMap f) M):∃ P:Nat->List PyData->DS->MH->Prop,P 0 [] (abe 1 fr τ) M /\
   (∀ i w acc τ M,ws[i]? = some w->P i acc τ M->acc.length < sizeLine/\gN 0 w τ M λ τ2 M2=>tt τ2 M2 λ b M3=>if b=true then te τ2 M3 λ y M4=>∃ d,y=.d d/\P (i+1) (acc++[d]) τ2 M4 else P (i+1) acc τ2 M3) /\
   ∀ acc τ M,P ws.length acc τ M->Q acc M:=by
 let Pk:Nat->List PyData->DS->Prop:=λ i acc τ'=>i<=ws.length/\acc=(ws.take i).filterMap f/\∃ x,τ'=x :: fr.map λ j=>(τ[j]?).getD none
 refine ⟨λ i acc τ' M'=>M'=M/\Pk i acc τ',⟨rfl,Nat.zero_le _,rfl,none,rfl⟩,λ i w acc τ' M' hw hp=>?_,λ acc τ' M' hp=>?_⟩
 ·obtain ⟨rfl,hi,rfl,x,rfl⟩:=hp
  have hlt:i < ws.length:=(List.getElem?_eq_some_iff.mp hw).1
  refine ⟨?_,step w (List.mem_of_getElem? hw) (λ o=>match o with
   | some d=>Pk (i+1) ((ws.take i).filterMap f++[d]) (some w :: fr.map λ j=>(τ[j]?).getD none)
   | none=>Pk (i+1) ((ws.take i).filterMap f) (some w :: fr.map λ j=>(τ[j]?).getD none)) ?_⟩
  ·have h1:=List.length_filterMap_le f (ws.take i)
   rw [List.length_take] at h1
   omega
  ·cases e:f w with
   | some d=>exact ⟨hlt,by rw [xY hw,e]; rfl,_,rfl⟩
   | none=>exact ⟨hlt,by rw [xY hw,e]; simp,_,rfl⟩
 ·obtain ⟨rfl,hi,rfl,x,rfl⟩:=hp
  rw [List.take_of_length_le (Nat.le_refl _)]
  exact q
theorem adL {α:Type}(g:α->W)(f:W->Option PyData)(h:α->PyData)(e:∀ a,f (g a)=some (h a))(l:List α):(l.map g).filterMap f=l.map h:=by
 induction l with
 | nil=>rfl
 | cons a l ih=>rw [List.map_cons,List.filterMap_cons,e,ih]; rfl
theorem t9:∀ ws M Q,dU ws M Q->vV { nx:=λ _ M'=>Q (.d .none) M',rt:=Q } (aQ vd ws) M:=by
 rintro ws M Q ⟨ns,rfl,hl,k⟩
 refine ⟨_,rfl,_,rfl,_,rfl,rfl,_,rfl,?_⟩
 have ec:cutD (ns.map PyData.int) none (some 63)=(cutD ns none (some 63)).map PyData.int:=by
  simp only [cutD,List.length_map,List.map_take,List.map_drop]
 have hlen:(cutD ns none (some 63)).length<=ns.length:=by
  simp only [cutD,List.length_take,List.length_drop]
  omega
 have h1000:(1000:Nat)<=sizeLine:=by rw [sizeLine_eq]; decide
 dsimp only
 refine aaV (λ w=>match w with
  | .d (.int n)=>some (.int (if n < 0 then -n else n))
  | _=>none) ?hl (λ w hw P' hp=>?_) ?_
 case hl=>rw [List.length_map,ec,List.length_map]; omega
 ·rw [ec,List.map_map] at hw
  obtain ⟨n,_,rfl⟩:=List.mem_map.mp hw
  exact ⟨_,rfl,_,rfl,_,rfl,rfl,hp⟩
 ·have e2:(List.map W.d (cutD (ns.map PyData.int) none (some 63))).filterMap (λ w=>match w with
    | .d (.int n)=>some (PyData.int (if n < 0 then -n else n))
    | _=>none)=((cutD ns none (some 63)).map λ n=>if n < 0 then -n else n).map PyData.int:=by
   rw [ec,List.map_map,adL (W.d ∘ PyData.int) _ (λ n=>PyData.int (if n < 0 then -n else n)) (λ n=>rfl),List.map_map]
   rfl
  rw [e2]
  refine ⟨by simp [sizeLine_eq],λ p hp=>k p _ hp (λ q hq=>ah hq) ⟨0,1234567891,0,_,aa,Int.le_refl 0,by decide,by decide,Int.le_refl 0,λ n hn=>?_⟩⟩
  obtain ⟨m,_,rfl⟩:=List.mem_map.mp hn
  split <;> omega
end D
namespace D
open PySem PySem.Spec PyProof.Rows L2
def yw (z:Str):Bool:=z.cps.all (· < 128)
theorem s16:(1000000:Nat)<=sizeLine:=by rw [sizeLine_eq]; decide
end D
namespace D
open PySem PySem.Spec PyProof.Rows L2
def Asc (z:Str):Prop:=∀ c∈z.cps.toList,c < 128
theorem str_len (z:Str):z.cps.toList.length=z.length:=by simp [Str.length]
theorem len_app (x y:Str):(x++y).length=x.length+y.length:=by show (x.cps++y.cps).size=_; simp [Str.length]
def Tx (n:Nat)(d:PyData):Prop:=∃ z:Str,d=.str z/\z.length<=n/\Asc z
theorem acH {z:Str}(h:z.cps.all (· < 128)=true):Asc z:=by
 intro c hc
 have:=Array.all_eq_true_iff_forall_mem.mp h c (by simpa using hc)
 simpa using this
theorem v3 {M:MH}{z:Str}{r:Int}(h0:0<=r)(h1:r < z.length):∃ c,ixW M (.d (.str z)) r=some (.d (.str ⟨#[c]⟩))/\c∈z.cps.toList:=by
 have hl:r < (z.cps.toList.length:Nat):=by rw [str_len]; exact h1
 refine ⟨z.cps.toList[r.toNat]'(by omega),?_,List.getElem_mem _⟩
 simp only [ixW]
 rw [zP h0 hl]
 rfl
abbrev iT:Str := "abcdefghijklmnopqrstuvwxyz"
theorem ac4:iT.length=26:=by decide +kernel
theorem few {n:Nat}(h:n<=1000):n<=sizeLine:=by have:=s16; omega
end D
namespace D
open PySem PySem.Spec PyProof.Rows L2
section
variable {X:Cx}{pins:List (Addr×Obj)}{σ:St}{H H0:Hp}{s s0:Shared}
theorem Inv.swap {a:Addr}{u u':HO}(I:Inv X pins σ H s)(h:H a=some u)(n1:∀ xs,u ≠ .tup xs)(n2:∀ x,u ≠ .own x)(b1:∀ xs,X.H₀ a≠some (.tup xs))(b2:∀ o v,X.H₀ a≠some (.frz o v))(b3:∀ ps,X.H₀ a≠some (.tbl ps))
  (new:bX X.prog X.w (upd H a u') s.heap a u'):Inv X pins σ (upd H a u') s:=by
 have nn:∀ b,H b=none->b≠a:=λ b e z=>by rw [z,h] at e; cases e
 refine ⟨I.ok,I.os,I.bare,⟨I.base.keep,I.base.slot,λ b ob q n x=>?_,I.base.there,λ b xs q=>?_,λ b ob v q=>?_,λ b ps q=>?_⟩,I.loc,I.cell,?_,λ x c q=>?_,λ p hp=>?_,λ b v q=>?_,I.len⟩
 ·have:=I.base.free b ob q n x
  rw [ao (nn b this)]; exact this
 ·rw [ao (λ z:b=a=>b1 xs (by rw [<- z]; exact q))]; exact I.base.tups b xs q
 ·rw [ao (λ z:b=a=>b2 ob v (by rw [<- z]; exact q))]; exact I.base.frzs b ob v q
 ·rw [ao (λ z:b=a=>b3 ps (by rw [<- z]; exact q))]; exact I.base.tbls b ps q
 ·rw [ao (nn _ I.free)]; exact I.free
 ·have:=I.freeC x c q
  rw [ao (nn c this)]; exact this
 ·obtain ⟨p1,p2,p3⟩:=I.pin p hp
  exact ⟨p1,by rw [ao (nn _ p2)]; exact p2,p3⟩
 ·by_cases hb:b=a
  ·subst hb
   rw [au] at q
   cases q
   exact new
  ·rw [ao hb] at q
   refine (I.hok b v q).rL (λ _ _ _ q=>q) (λ c r=>?_) λ c xs r=>?_
   ·rw [ao (λ z=>by rw [z,h] at r; exact n2 _ (Option.some.inj r))]; exact r
   ·rw [ao (λ z=>by rw [z,h] at r; exact n1 _ (Option.some.inj r))]; exact r
end
section
variable {K:PySem.W.Frag}{H:Hp}{a:Addr}{o:Obj}{l:List (Key×V)}
end
def mT (_:Ed)(_:DS)(_:MH):Prop:=False
theorem gJ {X:Cx}{st:Stmt}:PSd X st mT:=λ pins s σ H D I ⟨τ,M,Dd,A,h,_⟩=>h.elim
end D
namespace D
open PySem PySem.Spec PyProof.Rows L2
section
variable {X:Cx}{pins:List (Addr×Obj)}{σ:St}{H:Hp}{s:Shared}
theorem Inv.adj {D:Addr}{ys:List V}{us:List Value}{n:Nat}(I:Inv X pins σ H s)(e:s.heap.get? D=some { cls:=.type "tuple",data:=.seq us.toArray n })(hn:H D=none)(hv:Vals ys us)(hz:ys.length<=sizeLine)
  (h0:D∈X.ex\/X.s₀.heap.objs.size<=D)(hL:D≠X.env.locals)(hc:∀ x c,X.env.cells.lookup x=some c->c≠D)(hp:∀ p∈X.pn++pins,p.1≠D):Inv X pins σ (upd H D (.tup ys)) s:=by
 have ne:∀ b u,H b=some u->b≠D:=λ b u q=>aL q hn
 refine I.step (h':=s.heap) (g':=s.gens) (d':=s.drawn) (t':=s.toks) (ch:=[D]) (λ b hb=>?_) (λ b o _ _ _ q _=>q) (λ b o _ _ _ q _=>⟨o.slots,q⟩) (λ b o hb q n=>?_) (λ b o _ q=>⟨o,q⟩)
  (λ b xs q=>by rw [ao (ne b _ q)]; exact q) (λ b o u q=>by rw [ao (ne b _ q)]; exact q) (λ b ps q=>⟨#[],by rw [ao (ne b _ q),q]; simp⟩) (λ m hm=>hm) (λ b u q=>?_) I.bare
 ·have e:b=D:=by simpa using hb
  subst e
  exact ⟨h0,hL,hc,hp⟩
 ·rw [ao (λ z=>hb (by simp [z]))]; exact n
 ·by_cases hb:b=D
  ·subst hb
   rw [au] at q
   cases q
   exact ⟨hz,us,hv,⟨_,e,rfl,rfl,n,rfl⟩⟩
  ·rw [ao hb] at q
   exact (I.hok b u q).rL (λ _ _ _ q=>q) (λ c r=>by rw [ao (ne c _ r)]; exact r) λ c xs r=>by rw [ao (ne c _ r)]; exact r
end
section
variable {X:Cx}{tg o:Expr}{apos cpos:Pos}{td:TE}
end
section
variable {X:Cx}{K:PySem.W.Frag}{tg o:Expr}{apos cpos:Pos}{td:TD}
def ac8 (kds:List (Key×PyData)):List (Key×W):=kds.map λ p=>(p.1,.d p.2)
end
theorem oH:∀ {zs:List Str} {its:List Value},StrsAre its zs->Vals (zs.map V.str) its
 | _,_,.nil=>.nil
 | _,_,.cons y t h=>.cons ⟨t,rfl⟩ (oH h)
section
variable {X:Cx}{K:PySem.W.Frag}
theorem oA {H:Hp}:∀ (zs:List Str),aJ K H (a6 zs) (zs.map V.str)
 | []=>.nil
 | z :: zs=>.cons (by simp [az,ay]) (oA zs)
end
end D
namespace D
open PySem PySem.Spec PyProof.Rows L2
section
variable {X:Cx}{K:PySem.W.Frag}
theorem dF:dY X (.builtin "isinstance") (λ xs H Q=>∃ x d T,xs=[x,.ty T]/\qB X.K H d x/\Ty6 T/\Q (.bl (kO d T)) H):=by
 intro pins s σ H xs us Q I r h
 obtain ⟨x,d,T,rfl,rd,h6,q⟩:=h
 rcases rd with rd | ⟨a,vs,ds,rfl,rfl,ha,ra⟩
 ·exact vc pins s σ H _ us Q I r ⟨x,d,T,rfl,rd,h6,q⟩
 obtain ⟨u,w',rfl,rx,ry⟩:=vals2 r
 cases (show w'=Value.type T from ry)
 have e:=wM (K:=X.K) (.list ds) h6
 have fin:∀ tk,EP X pins σ Q (.bool (kO (.list ds) T)) { s with toks:=tk }:=λ tk=>⟨.bl _,H,I.tok _,rfl,q⟩
 generalize kO (.list ds) T=b at e fin
 cases (show u=Value.ref a from rx)
 obtain ⟨its,rv,⟨o,n,e1,e2,e3,e4⟩,hz⟩:=I.list (.inl (.inl ha))
 exact PySem.W.kia_one PySem.W.kitx_list I.kIn ⟨_,e1,e2⟩ e (λ z=>nomatch z) fin
def iZ (ws:List W)(M:MH)(Q:QD):Prop:=∃ w d T,ws=[w,.t T]/\y6 M w d/\Ty6 T/\Q (.d (.bool (kO d T))) M
theorem gH:gf K (λ xs H Q=>∃ x d T,xs=[x,.ty T]/\qB K H d x/\Ty6 T/\Q (.bl (kO d T)) H) iZ:=by
 intro vs H ws M Qd Q r m ⟨w,d,T,e,g,h6,q⟩ k
 subst e
 obtain ⟨v,v',e1,r1,r2⟩:=xB r
 simp only [az] at r2
 subst r2
 exact ⟨v,d,T,e1,g.sound r1 m,h6,k _ H (.d (.bool _)) M (Kp.refl H) (by simp [az,ay]) m q⟩
end
end D
namespace D
open PySem PySem.Spec PyProof.Rows L2
namespace Q
section
variable {X:Cx}{pins:List (Addr×Obj)}{σ:St}{H H0:Hp}{s s0:Shared}
end
section
variable {K:PySem.W.Frag}{H:Hp}{a:Addr}{o:Obj}{l:List (Key×V)}
end
theorem gJ {X:Cx}{st:Stmt}:Jd (PSd X st mT):=⟨D.gJ ⟩
section
variable {X:Cx}{pins:List (Addr×Obj)}{σ:St}{H:Hp}{s:Shared}
end
section
variable {X:Cx}{tg o:Expr}{apos cpos:Pos}{td:TE}
end
section
variable {X:Cx}{K:PySem.W.Frag}{tg o:Expr}{apos cpos:Pos}{td:TD}
end
section
variable {X:Cx}{K:PySem.W.Frag}
end
section
variable {X:Cx}{K:PySem.W.Frag}
end
end Q
end D
namespace S
open PySem PySem.W PyProof.Rows
def go {α:Type}(lt:Nat->Nat->Bool):KasT α->α
 | .ret a=>a
 | .ask i j k=>go lt (k (lt i j))
structure ahJ (lt:Nat->Nat->Bool):Prop where
 asym:∀ a b,lt a b=true->lt b a=false
 tr:∀ a b c,lt b a=false->lt c b=false->lt c a=false
section
variable {lt:Nat->Nat->Bool}
def B (lt:Nat->Nat->Bool)(a b:Nat):Prop:=lt a b=true\/(lt a b=false/\lt b a=false/\a < b)
abbrev g (p:Array Nat)(i:Nat):Nat:=p.getD i 0
structure Un (p:Array Nat)(N n:Nat):Prop where
 size:p.size=N
 lo:∀ i,i < n->g p i < n
 hi:∀ i,n<=i->i < N->g p i=i
def Up (lt:Nat->Nat->Bool)(p:Array Nat)(n:Nat):Prop:=∀ i j,i < j->j < n->B lt (g p i) (g p j)
def Dn (lt:Nat->Nat->Bool)(p:Array Nat)(n:Nat):Prop:=∀ i j,i < j->j < n->B lt (g p j) (g p i)
structure ahL (lt:Nat->Nat->Bool)(p:Array Nat)(n q:Nat):Prop where
 q1:q+1<=n
 dn:∀ i j,i < j->j < n - 1 - q->B lt (g p j) (g p i)
 cr:∀ i j,i < n - 1 - q->n - 1 - q<=j->j < n->lt (g p j) (g p i)=true
 bl:∀ i j,n - 1 - q<=i->i < j->j < n->B lt (g p i) (g p j)/\lt (g p i) (g p j)=false
end
end S
namespace S
open PySem PySem.W PyProof.Rows
def ahl {α:Type}(N:Nat)(R:α->Prop):KasT α->Prop
 | .ret a=>R a
 | .ask i j k=>i < N/\j < N/\∀ b,ahl N R (k b)
def Low (N:Nat)(p:Array Nat):Prop:=∀ i,g p i < N
section
variable {N:Nat}
end
section
variable {prog:Program}{w:World}{A:Around}{E:Value->Shared->Prop}{s:Shared}
end
end S
namespace S
open PySem PySem.W PyProof.Rows
def Shape:List Bool->List PyData->Prop
 | [],[]=>True
 | true :: bs,d :: ds=>(∃ x,d=.str x)/\Shape bs ds
 | false :: bs,d :: ds=>(∃ i,d=.int i)/\Shape bs ds
 | _,_=>False
def rowAt (rows:List (List PyData))(i:Nat):List PyData:=rows.getD i (rows.headD [])
def ahe:List PyData->List Value->Prop:=Paired λ d u=>(∃ i t,d=.int i/\u=.int i t)\/∃ x t,d=.str x/\u=.str x t
section
variable {prog:Program}{w:World}{A:Around}{Q:Bool->Shared->Prop}
end
end S
namespace D
open PySem PySem.Spec PyProof.Rows L2 S
section
variable {K:PySem.W.Frag}
def agY (h:Heap)(sh:List Bool)(rows:List (List PyData))(its:List Value):Prop:=Paired (λ row u=>Shape sh row/\∃ a o us n,u=Value.ref a/\h.get? a=some o/\o.cls=.type "tuple" /\ o.data=.seq us n/\ahe row us.toList) rows its
end
section
variable {X:Cx}{K:PySem.W.Frag}
end
end D
namespace D
open PySem PySem.Spec PyProof.Rows L2 S
section
variable {P:Program}{w:World}{H:Hp}{h h':Heap}{a:Addr}{o:HO}
end
section
variable {X:Cx}{pins:List (Addr×Obj)}{σ:St}{H:Hp}{s:Shared}{h':Heap}
end
section
variable {X:Cx}{K:PySem.W.Frag}
theorem pj {P:Program}{w:World}:∀ {zs:List Str} {vs:List (Key×Value)} {us:List Value},vs.map (·.1)=zs.map Sum.inr->us.length=vs.length->(∀ (j:Nat) v,us[j]? = some v->∃ k x,vs[j]? = some (k,x)/\(aX P w).is k v=true)->StrsAre us zs
 | [],vs,us,h,hl,hp=>by
  have e:vs=[]:=by simpa using h
  subst e
  have e:us=[]:=by simpa using hl
  subst e
  exact .nil
 | z :: zs,vs,us,h,hl,hp=>by
  match vs,us,h,hl,hp with
  | (k,x) :: vs,u :: us,h,hl,hp =>
   simp only [List.map_cons,List.cons.injEq] at h
   obtain ⟨k',x',e,hk⟩:=hp 0 u rfl
   simp at e
   obtain ⟨e1,e2⟩:=e
   subst e1 e2
   rw [h.1,uo] at hk
   obtain ⟨t,e⟩:∃ t,u=.str z t:=by
    rcases bH hk with ⟨i,t,e,_⟩ | ⟨y,t,e,e'⟩
    ·cases e
    ·cases e
     exact ⟨t,e'⟩
   subst e
   exact .cons z t (pj h.2 (by simpa using hl) λ j v hj=>by simpa using hp (j+1) v (by simpa using hj))
  | [],_,h,_,_=>simp at h
  | _ :: _,[],_,hl,_=>simp at hl
def isNone:W->Bool
 | .d .none=>true
 | _=>false
theorem lP {H:Hp}{w:W}{v:V}(r:az K H w v):decide (v=.non)=isNone w:=by
 cases w with
 | m a=>cases (show v=.ref a from r); rfl
 | t n=>cases (show v=.ty n from r); rfl
 | d x =>
  cases x <;> simp only [az,ay] at r
  ·subst r; rfl
  ·subst r; rfl
  ·subst r; rfl
  ·subst r; rfl
  all_goals first
   | (obtain ⟨a,vs,e,_⟩:=r; subst e; rfl)
   | (obtain ⟨a,o,l,e,_⟩:=r; subst e; rfl)
def uw (neg:Bool)(w:W)(w':W)(M:MH)(Q:QD):Prop:=w'=.d .none/\Q (.d (.bool (xor neg (isNone w)))) M
theorem rR:OpD K (λ x y H Q=>y=.non/\Q (.bl (decide (x=.non))) H) (uw false):=by
 intro x y H w w' M Qd Q r1 r2 m ⟨e,q⟩ k
 subst e
 simp only [az,ay] at r2
 refine ⟨r2,k _ _ (.d (.bool (isNone w))) M (Kp.refl _) ?_ m (by simpa using q)⟩
 rw [lP r1]
 simp [az,ay]
theorem yM:OpD K (λ x y H Q=>y=.non/\Q (.bl (!decide (x=.non))) H) (uw true):=by
 intro x y H w w' M Qd Q r1 r2 m ⟨e,q⟩ k
 subst e
 simp only [az,ay] at r2
 refine ⟨r2,k _ _ (.d (.bool (!isNone w))) M (Kp.refl _) ?_ m (by simpa using q)⟩
 rw [lP r1]
 simp [az,ay]
end
end D
namespace D
open PySem PySem.Spec PyProof.Rows L2
section
variable {X:Cx}{pins:List (Addr×Obj)}{σ:St}{H:Hp}{s:Shared}{h':Heap}
theorem Inv.ace {t':Nat}{it e:Addr}(I:Inv X pins σ H s)(k:∀ b o,b≠it->b≠e->s.heap.get? b=some o->h'.get? b=some o)(f:kJ X pins H it)(g:kJ X pins H e):Inv X pins σ H { s with heap:=h',toks:=t' }:=by
 obtain ⟨f0,f1,f2,f3,f4,f5⟩:=f
 obtain ⟨g0,g1,g2,g3,g4,g5⟩:=g
 have nit:∀ b u,H b=some u->b≠it:=λ b u q z=>by rw [z,f0] at q; cases q
 have ne:∀ b u,H b=some u->b≠e:=λ b u q z=>by rw [z,g0] at q; cases q
 refine I.step (g':=s.gens) (d':=s.drawn) (ch:=[it,e]) (λ b hb=>?_) (λ b o _ _ hc q _=>k b o (λ z=>hc (by simp [z])) (λ z=>hc (by simp [z])) q) (λ b o _ _ hc q _=>⟨o.slots,k b o (λ z=>hc (by simp [z])) (λ z=>hc (by simp [z])) q⟩) (λ _ _ _ _ n=>n)
  (λ b o hc q=>⟨o,k b o (λ z=>hc (by simp [z])) (λ z=>hc (by simp [z])) q⟩) (λ _ _ q=>q) (λ _ _ _ q=>q) (λ b ps q=>⟨#[],by rw [q]; simp⟩) (λ m hm=>?_) (λ b u q=>?_) I.bare
 ·have z:b=it\/b=e:=by simpa using hb
  rcases z with rfl | rfl
  ·exact ⟨f3,f1,f4,f5⟩
  ·exact ⟨g3,g1,g4,g5⟩
 ·obtain ⟨o,es,ep,ho,r⟩:=hm
  exact ⟨o,es,ep,k _ o (Ne.symm f1) (Ne.symm g1) ho,r⟩
 ·refine (I.hok b u q).rL (λ c v hc z=>k c v ?_ ?_ z) (λ _ z=>z) λ _ _ z=>z
  ·rcases hc with z | z
   ·rw [z]; exact nit b u q
   ·exact nit c _ z
  ·rcases hc with z | z
   ·rw [z]; exact ne b u q
   ·exact ne c _ z
end
def Ite (K:PySem.W.Frag)(a:Addr):It :=
 ⟨λ i H=>∃ xs x,SqL K H a xs/\xs[i]? = some x,λ i H x H'=>∃ T v,H T=none/\x=.ref T/\H'=upd H T (.tup [.int i,v])/\∀ xs,SqL K H a xs->xs[i]? = some v,λ i H=>∃ xs,SqL K H a xs/\xs.length<=i⟩
theorem wU {P:Program}{w:World}{K:PySem.W.Frag}{elts:List Expr}{x1:Nat}{tpos:Pos}(a e it:Addr)(hne:e≠it) :
  Turn P w K (.Tuple elts x1 tpos) (Ite K a) [e,it] e (λ i h=>(∃ old,IsEnum h e it (i:Nat) old)/\h.IsListIter it a i) where
 mem:=by simp
 obj:=λ i h ⟨⟨old,st⟩,⟨oi,ei,ci,di⟩⟩ b hb=>by
  have z:b=e\/b=it:=by simpa using hb
  rcases z with rfl | rfl
  ·exact ⟨_,st,λ v z=>by cases z⟩
  ·exact ⟨oi,ei,λ v z=>by rw [di] at z; cases z⟩
 keep:=λ i h h' ⟨⟨old,st⟩,li⟩ k=>⟨⟨old,k e (by simp) _ st⟩,li.at λ o q=>k it (by simp) o q⟩
 item:=by
  intro X hP hw hK hc i pins s σ H E I hf ⟨⟨old,st⟩,li⟩ ⟨xs,x,hq,hx⟩
  subst hP hw hK
  have fe:=hf e (by simp)
  have fi:=hf it (by simp)
  obtain ⟨its,rv,p,hz⟩:=I.list hq
  obtain ⟨u,hu,ru⟩:=rv.get hx
  refine wpAny_pyNext_enum_item st li p.isList (x:=u) (by simpa using hu) hne λ h' st' li' ht hsz kp=>?_
  refine ⟨_,rfl,wpAny_letOwnedTupleGo_enum st' λ h'' st'' sb=>?_⟩
  obtain ⟨t0,t1,t2,t3,t4,t5⟩:=I.sy (Nat.le_refl _) (I.hok.fresh (Nat.le_refl _))
  have nT:s.heap.objs.size≠e:=Nat.ne_of_gt (Heap.lt_size st)
  have I1:Inv X pins σ H { s with heap:=h'',toks:=s.toks+1 }:=Inv.ace I (λ b ob h1 h2 q=>(sb.2 b h2).trans (kp b ob h2 h1 q)) fi fe
  have eT:h''.get? s.heap.objs.size=some { cls:=.type "tuple",data:=.seq #[.int (i:Nat) s.toks,u] }:=(sb.2 _ nT).trans ht
  have I2:=Inv.adj (us:=[.int (i:Nat) s.toks,u]) (ys:=[.int i,x]) I1 eT t0 (.cons ⟨_,rfl⟩ (.cons ru .nil)) (by simp; have:=s16; omega) t3 t1 t4 t5
  have li'':h''.IsListIter it a (i+1):=li'.at λ o q=>(sb.2 it hne.symm).trans q
  have hit:it < s.heap.objs.size:=by
   obtain ⟨oi,ei,_⟩:=li
   exact Heap.lt_size ei
  refine ⟨.ref s.heap.objs.size,_,I2,rfl,⟨_,x,t0,rfl,rfl,λ ys hy=>by rw [I.tM hy hq]; exact hx⟩,⟨⟨_,st''⟩,li''⟩,λ b hb=>?_⟩
  have z:b=e\/b=it:=by simpa using hb
  rcases z with rfl | rfl
  ·rw [ao nT.symm]; exact fe.1
  ·rw [ao (Nat.ne_of_lt hit)]; exact fi.1
 done:=by
  intro X hP hw hK hc i pins s σ H E I hf ⟨⟨old,st⟩,li⟩ ⟨xs,hq,hx⟩
  subst hP hw hK
  obtain ⟨f0,f1,f2,f3,f4,f5⟩:=hf it (by simp)
  obtain ⟨its,rv,p,hz⟩:=I.list hq
  have hl:=rv.length
  exact wpAny_pyNext_enum_end (I.ok.hd hc) st li p.isList (by simp; omega) λ h' eb=>⟨rfl,I.turned (t':=s.toks) (λ b o hb q=>eb b o hb q) f0 f1 f3 f4 f5⟩
 self:=λ _ _ _ _ _ ⟨⟨old,st⟩,li⟩ h=>wpAny_pyIter_enum st h
theorem o9:bootBuiltins "enumerate" = some (.type "enumerate"):=by decide +kernel
section
variable {X:Cx}{a:Expr}{p pos:Pos}{ta:TA}
def af6 (K:PySem.W.Frag)(ta:TA):TI:=λ σ H R=>ta σ H λ vs H1=>∃ b xs,vs=[.ref b]/\SqL K H1 b xs/\R (Ite K b) H1
theorem acG {elts:List Expr}{x1:Nat}{tpos:Pos}(hg:Gl X "enumerate")(hm:X.mg "enumerate" = none)(ha:PA X [a] ta)(hs:starEach [a] X.env=[(false,eval a X.env)]:=by rfl) :
  PI X (.Tuple elts x1 tpos) (.Call (.Name "enumerate" p) [a] [] pos) (af6 X.K ta):=by
 intro pins s σ H R I h
 refine Call_ (lN I hg hm o9 (PyProof.Rows.callWith_type1 (thn (ha pos pins s σ H _ I h) λ us s1 ⟨vs,H1,I1,r1,q1⟩=>?_) hs rfl))
 obtain ⟨b,xs,e,hq,q⟩:=q1
 subst e
 cases r1 with
 | cons r rr =>
  cases rr
  cases (show _=Value.ref b from r)
  obtain ⟨its,rv,pl,hz⟩:=I1.list hq
  refine call_enumerate_list pl.isList λ h' st li hsz kp=>?_
  have I2:Inv X pins σ H1 { s1 with heap:=h' }:=I1.kept (t':=s1.toks) kp
  refine wpAny_pyIter_enum st ?_
  refine ⟨_,[_,_],_,_,H1,rfl,I2,wU b _ _ (Nat.succ_ne_self _),⟨⟨_,st⟩,li⟩,λ c hc=>?_,q⟩
  have z:c=s1.heap.objs.size+1\/c=s1.heap.objs.size:=by simpa using hc
  rcases z with rfl | rfl
  ·exact I1.sy (Nat.le_succ _) (I1.hok.fresh (Nat.le_succ _))
  ·exact I1.sy (Nat.le_refl _) (I1.hok.fresh (Nat.le_refl _))
end
section
variable {X:Cx}{K:PySem.W.Frag}{a:Expr}{p pos:Pos}{t:TAd}
def uP (ds:List PyData):List W:=(List.range ds.length).map λ i=>.d (.tuple [.int (i:Nat),ds.getD i .none])
def aaT (t:TAd)(τ:DS)(M:MH)(R:List W->MH->Prop):Prop:=t τ M λ ws M1=>∃ ds,ws=[.d (.list ds)]/\R (uP ds) M1
theorem nj {elts:List Expr}{x1:Nat}{tpos:Pos}(hg:Gl X "enumerate")(hm:X.mg "enumerate" = none)(ha:PAd X [a] t)(h1:df a=false:=by rfl) :
  PId X (.Tuple elts x1 tpos) (.Call (.Name "enumerate" p) [a] [] pos) (aaT t):=afh (acG hg hm ha (by rw [bK a [] X.env h1]; rfl)) λ σ H R hq81=>by
 obtain ⟨τ,M,Rd,A,h,k⟩:=hq81
 refine ⟨τ,M,_,A,h,λ vs H1 ws M1 kp r m hq82=>?_⟩
 obtain ⟨ds,ew,q⟩:=hq82
 subst ew
 obtain ⟨v,ev,r1⟩:=eL r
 simp only [az,ay] at r1
 obtain ⟨b,xs,e1,hs,ra⟩:=r1
 subst ev e1
 have hl:=ra.length
 refine ⟨b,xs,rfl,hs.sq,k _ H1 _ M1 kp m (λ H2 kp2 i=>?_) q⟩
 have hs2:=(hs.keep kp2).sq
 have hlw:(uP ds).length=xs.length:=by simp [uP,hl]
 refine ⟨λ hi=>⟨xs,xs[i]'(by omega),hs2,by simp⟩,λ hi=>⟨xs,hs2,by omega⟩,λ x H' hi hq83=>?_⟩
 obtain ⟨T,v,hT,ex,eH,hv⟩:=hq83
 subst ex eH
 have hxv:=hv xs hs2
 obtain ⟨d,e3,rd⟩:=(ra.keep kp2).get' hxv
 have kpn:Kp H2 (upd H2 T (.tup [.int i,v])):=Kp.new hT
 have hid:i < ds.length:=by rw [hlw] at hi; omega
 refine ⟨kpn,λ M m=>m.new hT,.d (.tuple [.int (i:Nat),ds.getD i .none]),by simp [uP,hid],?_⟩
 have ed:ds.getD i .none=d:=by simp [List.getD,e3]
 rw [ed]
 simp only [az,ay,bj]
 exact ⟨T,_,rfl,.inl (.inl au),_,_,rfl,rfl,_,_,rfl,rd.keep kpn,rfl⟩
end
theorem aag:bootBuiltins "sum" = some (.builtin "sum"):=by decide +kernel
theorem xW:bootBuiltins "min" = some (.builtin "min"):=by decide +kernel
theorem ju (f:Nat->Int)(k:Nat):preSum f (k+1)=preSum f k+f k:=rfl
theorem gD (ps:List (Int×Tok)):∀ k,k<=ps.length->preSum (numAt ps.toArray) k=((ps.map (·.1)).take k).sum
 | 0,_=>by simp [preSum]
 | k+1,h=>by
  rw [ju,gD ps k (by omega),List.take_succ,List.sum_append]
  have hk:k < ps.length:=by omega
  simp [numAt,List.getElem?_eq_getElem hk]
theorem sum_bound:∀ (ns:List Int),(∀ n∈ns,0<=n/\n<=1000000)->0<=ns.sum/\ns.sum<=1000000 * ns.length
 | [],_=>by simp
 | n :: ns,h=>by
  have h1:=h n (by simp)
  have h2:=sum_bound ns λ x hx=>h x (by simp [hx])
  simp only [List.sum_cons,List.length_cons]
  omega
section
variable {X:Cx}{K:PySem.W.Frag}
theorem vF (hc:X.calm=true):dY X (.builtin "sum") (λ xs H Q=>∃ p,∃ ns:List Int,xs=[.ref p]/\SqL X.K H p (ns.map V.int)/\ns.length<=1000/\(∀ n∈ns,0<=n/\n<=1000000)/\Q (.int ns.sum) H):=by
 intro pins s σ H xs us Q I r h
 obtain ⟨p,ns,rfl,hq,hlen,hb,q⟩:=h
 obtain ⟨u,rfl,rx⟩:=vals1 r
 cases rx
 obtain ⟨its,rv,pl,hz⟩:=I.list hq
 obtain ⟨ps,e1,e2⟩:=tw rv
 subst e1
 have hl:s.heap.IsList p (intItems ps.toArray):=by
  have e:(ps.map λ p=>Value.int p.1 p.2).toArray=intItems ps.toArray:=by simp [intItems]
  rw [<- e]
  exact pl.isList
 have hpl:ps.length=ns.length:=by rw [<- e2,List.length_map]
 refine sum_intList (I.ok.hd hc) hl (λ j hj=>?_) λ h' tk t' kk=>?_
 ·have hj':j < ps.length:=by simpa using hj
  have hn:numAt ps.toArray j=(ps[j]).1:=by simp [numAt,List.getElem?_eq_getElem hj']
  have hm:(ps[j]).1∈ns:=by rw [<- e2]; exact List.mem_map.mpr ⟨_,List.getElem_mem hj',rfl⟩
  have b1:=hb _ hm
  have b2:=sum_bound (ns.take (j+1)) λ n hn=>hb n (List.mem_of_mem_take hn)
  rw [List.length_take] at b2
  refine ⟨by rw [hn]; exact ⟨by omega,by omega⟩,?_⟩
  rw [gD ps (j+1) (by omega),e2]
  exact ⟨by omega,by omega⟩
 ·refine ⟨.int _,H,I.kept kk,⟨_,rfl⟩,?_⟩
  have:preSum (numAt ps.toArray) ps.toArray.size=ns.sum:=by
   rw [List.size_toArray,gD ps ps.length (Nat.le_refl _),e2,hpl,List.take_length]
  rw [this]
  exact q
def aeO (ws:List W)(M:MH)(Q:QD):Prop:=∃ w,∃ ns:List Int,ws=[w]/\abV M w (ns.map PyData.int)/\ns.length<=1000/\(∀ n∈ns,0<=n/\n<=1000000)/\Q (.d (.int ns.sum)) M
theorem ae0:gf K (λ xs H Q=>∃ p,∃ ns:List Int,xs=[.ref p]/\SqL K H p (ns.map V.int)/\ns.length<=1000/\(∀ n∈ns,0<=n/\n<=1000000)/\Q (.int ns.sum) H) aeO:=by
 intro vs H ws M Qd Q r m ⟨w,ns,e,g,hl,hb,q⟩ k
 subst e
 obtain ⟨v,e1,r1⟩:=eL r
 obtain ⟨p,ys,ev,hs,ra⟩:=g.sound r1 m
 have ey:=oE ra
 subst ev ey
 exact ⟨p,ns,e1,hs,hl,hb,k _ H (.d (.int _)) M (Kp.refl H) (by simp [az,ay]) m q⟩
def vA (ws:List W)(M:MH)(Q:QD):Prop:=∃ i j,ws=[.d (.int i),.d (.int j)]/\Q (.d (.int (if j < i then j else i))) M
theorem xF:gf K (λ xs H Q=>∃ i j,xs=[V.int i,V.int j]/\Q (V.int (if j < i then j else i)) H) vA:=by
 intro vs H ws M Qd Q r m ⟨i,j,e,q⟩ k
 subst e
 obtain ⟨v,v',e1,r1,r2⟩:=xB r
 simp only [az,ay] at r1 r2
 subst r1 r2
 exact ⟨i,j,e1,k _ H (.d (.int _)) M (Kp.refl H) (by simp [az,ay]) m q⟩
end
end D
namespace Rc
open PySem PySem.Spec PyProof.Rows L2 D
section
variable {α:Type}(nm:α->Str)
def rk (g:α->PyData)(L:List α):List (Key×PyData):=L.map λ a=>(.inr (nm a),g a)
def fd (L:List α)(n:Str):Option α:=L.find? λ a=>decide (nm a=n)
def pt (L:List α)(z:α):List α:=match fd nm L (nm z) with
 | none=>L++[z]
 | some _=>L.map λ y=>if nm y=nm z then z else y
variable {nm}
end
end Rc
namespace Rc
open PySem PySem.Spec PyProof.Rows L2 D
mutual
def okD:Nat->PyData->Bool
 | _,.none=>true
 | _,.bool _=>true
 | _,.int i=>decide (i.natAbs < 2 ^ 100)
 | _,.str z=>yw z
 | k+1,.list ds=>okA k ds
 | k+1,.tuple ds=>okA k ds
 | _,_=>false
def okA:Nat->List PyData->Bool
 | _,[]=>true
 | k,d :: ds=>okD k d && okA k ds
end
theorem aae {k:Nat}:∀ {ds:List PyData},(∀ d∈ds,okD k d=true)->okA k ds=true
 | [],_=>by simp [okA]
 | d :: ds,h=>by
  simp only [okA,Bool.and_eq_true]
  exact ⟨h d (by simp),aae λ x hx=>h x (by simp [hx])⟩
theorem zF {z:Str}(h:yw z=true):Asc z:=acH h
theorem ve {z:Str}(h:Asc z):PyData.strOk z=true:=by
 unfold PyData.strOk
 rw [Array.all_eq_true_iff_forall_mem]
 intro c hc
 exact decide_eq_true (by have:=h c (by simpa using hc); omega)
theorem abA {z:Str}(h:yw z=true):PyData.strOk z=true:=ve (zF h)
mutual
theorem xi:∀ (k:Nat) (d:PyData),okD k d=true->PyData.canLay0 d=true
 | _,.none,_=>by simp [PyData.canLay0]
 | _,.bool _,_=>by simp [PyData.canLay0]
 | _,.int i,h=>by simp [PyData.canLay0]
 | _,.str z,h=>by
  cases ‹Nat› <;> simp only [okD] at h <;> simp [PyData.canLay0,abA h]
 | k+1,.list ds,h=>by simp only [okD] at h; simp only [PyData.canLay0]; exact rh k ds h
 | k+1,.tuple ds,h=>by simp only [okD] at h; simp only [PyData.canLay0]; exact rh k ds h
 | 0,.list ds,h=>by simp [okD] at h
 | 0,.tuple ds,h=>by simp [okD] at h
 | k,.dict kvs,h=>by cases k <;> simp [okD] at h
theorem rh:∀ (k:Nat) (ds:List PyData),okA k ds=true->PyData.canLayAll0 ds=true
 | _,[],_=>by simp [PyData.canLayAll0]
 | k,d :: ds,h=>by
  simp only [okA,Bool.and_eq_true] at h
  simp only [PyData.canLayAll0,xi k d h.1,rh k ds h.2,Bool.and_self]
end
mutual
theorem sf:∀ (k:Nat) (d:PyData),okD k d=true->PyData.depth d<=k+1
 | _,.none,_=>by simp [PyData.depth]
 | _,.bool _,_=>by simp [PyData.depth]
 | _,.int i,h=>by simp [PyData.depth]
 | _,.str z,h=>by simp [PyData.depth]
 | k+1,.list ds,h=>by simp only [okD] at h; have:=jM k ds h; simp only [PyData.depth]; omega
 | k+1,.tuple ds,h=>by simp only [okD] at h; have:=jM k ds h; simp only [PyData.depth]; omega
 | 0,.list ds,h=>by simp [okD] at h
 | 0,.tuple ds,h=>by simp [okD] at h
 | k,.dict kvs,h=>by cases k <;> simp [okD] at h
theorem jM:∀ (k:Nat) (ds:List PyData),okA k ds=true->PyData.depthAll ds<=k+1
 | _,[],_=>by simp [PyData.depthAll]
 | k,d :: ds,h=>by
  simp only [okA,Bool.and_eq_true] at h
  have h1:=sf k d h.1
  have h2:=jM k ds h.2
  simp only [PyData.depthAll]
  omega
end
mutual
theorem zV:∀ (k:Nat) (d:PyData),okD k d=true->PyData.hasDict d=false
 | _,.none,_=>by simp [PyData.hasDict]
 | _,.bool _,_=>by simp [PyData.hasDict]
 | _,.int i,h=>by simp [PyData.hasDict]
 | _,.str z,h=>by simp [PyData.hasDict]
 | k+1,.list ds,h=>by simp only [okD] at h; simp only [PyData.hasDict]; exact rE k ds h
 | k+1,.tuple ds,h=>by simp only [okD] at h; simp only [PyData.hasDict]; exact rE k ds h
 | 0,.list ds,h=>by simp [okD] at h
 | 0,.tuple ds,h=>by simp [okD] at h
 | k,.dict kvs,h=>by cases k <;> simp [okD] at h
theorem rE:∀ (k:Nat) (ds:List PyData),okA k ds=true->PyData.hasDictAll ds=false
 | _,[],_=>by simp [PyData.hasDictAll]
 | k,d :: ds,h=>by
  simp only [okA,Bool.and_eq_true] at h
  simp only [PyData.hasDictAll,zV k d h.1,rE k ds h.2,Bool.or_self]
end
theorem fM {k:Nat}{d:PyData}(hk:k<=50)(h:okD k d=true):kK d=true:=by
 have h1:=xi k d h
 have h2:=sf k d h
 have h3:=zV k d h
 simp only [kK,SeqAt.shaped,h1,h3,Bool.true_and,Bool.not_false,Bool.and_true]
 exact decide_eq_true (by omega)
theorem l8 {k:Nat}{d:PyData}(h:okD k d=true):PyData.eqv d d=true:=SeqAt.eqv_refl _ (xi k d h)
theorem zO (x y:Str):PyData.eqv (.str x) (.str y)=decide (x=y):=by
 rw [<- qS]
 by_cases e:x=y
 ·subst e; simp
 ·simp [e]
theorem ji (x y:Int):PyData.eqv (.int x) (.int y)=decide (x=y):=by
 rw [PyData.eqv]
 by_cases e:x=y
 ·subst e; simp
 ·simp [e]
theorem acT {M:MH}{a b:Addr}{o u:MO}(ha:M a=some o)(hb:M b=some u)(h:o≠u):a≠b:=λ e=>h (by rw [e,hb] at ha; exact (Option.some.inj ha).symm)
theorem aW {M:MH}{a b:Addr}{o:MO}(ha:M a=some o)(hb:M b=none):a≠b:=λ e=>by rw [e,hb] at ha; cases ha
theorem cJ {M:MH}{a b:Addr}{o u:MO}(h:M a=some o)(hb:M b=none):aK M b u a=some o:=by rw [ah (aW h hb)]; exact h
theorem y8 {M:MH}{d:Addr}{x y:MO}(h:M d=some y):aK (aK M d x) d y=M:=by
 rw [jW]
 funext q
 by_cases e:q=d
 ·rw [e,aa,h]
 ·rw [ah e]
end Rc
namespace Stc
open PySem PySem.Spec PyProof.Rows L2 D Rc
theorem afq {M:MH}{ds:List PyData}{r:Int}(h0:0<=r)(h1:r < ds.length):∃ d,ixW M (.d (.list ds)) r=some (.d d)/\d∈ds:=by
 have hn:r.toNat < ds.length:=by omega
 refine ⟨ds[r.toNat],?_,List.getElem_mem hn⟩
 simp only [ixW,atI,vo h0 h1,Option.bind_some,List.getElem?_eq_getElem hn,Option.map_some]
theorem jL {M:MH}{ns:List Int}{r:Int}(h0:0<=r)(h1:r < ns.length):∃ i,ixW M (.d (.list (ns.map PyData.int))) r=some (.d (.int i))/\i∈ns:=by
 obtain ⟨d,e,hd⟩:=afq (M:=M) (ds:=ns.map PyData.int) h0 (by simpa using h1)
 obtain ⟨i,hi,rfl⟩:=List.mem_map.mp hd
 exact ⟨i,e,hi⟩
theorem aek {M:MH}{p:Addr}(h:Bag M p):∃ o,M p=some o:=by obtain ⟨a,b,c,ns,e,_⟩:=h; exact ⟨_,e⟩
theorem nO {M M':MH}{p:Addr}(h:Bag M p)(e:M' p=M p):Bag M' p:=by
 obtain ⟨a,b,c,ns,h1,h2⟩:=h
 exact ⟨a,b,c,ns,e.trans h1,h2⟩
end Stc
namespace D
open PySem PySem.Spec PyProof.Rows L2
section
variable {X:Cx}{pos:Pos}{e:Expr}{te:TD}
end
section
variable {X:Cx}{tg a b c:Expr}{p pos:Pos}
end
section
variable {K:PySem.W.Frag}
def u6 (di:TId)(g:TGd)(tt:TTd)(te:TD)(k:Nat)(fr:List Nat)(τ:DS)(M:MH)(Q:QD):Prop:=di τ M λ ws M1=>∃ P:Nat->List PyData->DS->MH->Prop,P 0 [] (abe k fr τ) M1 /\
 (∀ i w acc τ M,ws[i]? = some w->P i acc τ M->acc.length < sizeLine/\g w τ M λ τ2 M2=>tt τ2 M2 λ b M3=>if b=true then te τ2 M3 λ y M4=>∃ d,y=.d d/\P (i+1) (acc++[d]) τ2 M4 else P (i+1) acc τ2 M3) /\
 ∀ acc τ M,P ws.length acc τ M->∀ p,M p=none->Q (.m p) (aK M p (.lst (acc.map W.d)))
theorem xP {di:TId}{g:TGd}{tt:TTd}{te:TD}{k:Nat}{fr:List Nat}{σ:St}{H:Hp}{Q:VK}(h:up K (u6 di g tt te k fr) σ H Q) :
  tLC (upI K di) (upG K g) (upT K tt) (up K te) k fr σ H Q:=by
 obtain ⟨τ,M,Qd,A,h,kk⟩:=h
 refine ⟨τ,M,_,A,h,λ J H1 ws M1 kp m1 it hq84=>?_⟩
 obtain ⟨P,p0,pt,pe⟩:=hq84
 refine ⟨λ i n ys σ' H'=>n=ws.length - i/\i<=ws.length/\Kp H1 H'/\∃ acc τ M,bj K H' acc ys/\Abs K H' σ' τ M/\P i acc τ M,⟨ws.length,by simp,Nat.zero_le _,Kp.refl _,[],_,M1,by simp [bj],tq (A.go kp m1) k fr,p0⟩,?_⟩
 rintro i n ys σ2 H2 ⟨rfl,hi,kp2,acc,τ2,M2,ra,A2,p2⟩
 obtain ⟨go,stop,yld⟩:=it H2 kp2 i
 by_cases hlt:i < ws.length
 ·have hlen:=ra.length
  refine .inr ⟨go hlt,?_,λ x H3 y=>?_⟩
  ·obtain ⟨w,hw⟩:∃ w,ws[i]? = some w:=⟨ws[i],by simp [hlt]⟩
   have:=(pt i w acc τ2 M2 hw p2).1
   omega
  obtain ⟨kp3,mk,w,ew,rw⟩:=yld x H3 hlt y
  refine ⟨w,τ2,M2,_,rw,A2.go kp3 (mk _ A2.mem),(pt i w acc τ2 M2 ew p2).2,λ σ4 H4 τ4 M4 kp4 A4 q4=>⟨τ4,M4,_,A4,q4,λ b H5 M5 kp5 m5 q5=>?_⟩⟩
  have kq:=(kp3.trans kp4).trans kp5
  cases b with
  | false =>
   rw [if_neg Bool.false_ne_true] at q5
   show (if false=true then _ else _)
   rw [if_neg Bool.false_ne_true]
   exact ⟨ws.length - (i+1),by omega,rfl,hlt,kp2.trans kq,acc,τ4,M5,ra.keep kq,A4.go kp5 m5,q5⟩
  | true =>
   rw [if_pos rfl] at q5
   show (if true=true then _ else _)
   rw [if_pos rfl]
   refine ⟨τ4,M5,_,A4.go kp5 m5,q5,λ v H6 wv M6 kp6 r6 m6 hq85=>?_⟩
   obtain ⟨d,e6,q6⟩:=hq85
   subst e6
   refine ⟨ws.length - (i+1),by omega,rfl,hlt,kp2.trans (kq.trans kp6),acc++[d],τ4,M6,bj.append (ra.keep (kq.trans kp6)) ?_,A4.go (kp5.trans kp6) m6,q6⟩
   simp only [bj]
   exact ⟨v,[],rfl,r6,rfl⟩
 ·have hl:i=ws.length:=by omega
  subst hl
  refine .inl ⟨stop (Nat.le_refl _),λ p hp=>?_⟩
  have kp9:Kp H2 (upd H2 p (.lst ys)):=Kp.new hp
  exact kgo kk (kp.trans kp2) _ _ (.m p) _ kp9 rfl (A2.mem.put (mo:=.lst (acc.map W.d)) kp9 ⟨_,au,(ra.keep kp9).ws⟩) (pe acc τ2 M2 p2 p (A2.mem.free hp))
variable {X:Cx}{sc:Scope}{own:List Str}{fr:List Nat}{di:TId}{g:TGd}{tt:TTd}{te:TD}{tg iter elt:Expr}{ifs:List Expr}{pos:Pos}
theorem acA (hc:X.calm=true)(L:mS X sc own fr)(hi:PId X tg iter di)
  (hg:∀ cl C s H ex pl,PGd (blk X sc (lcN X own fr) cl C s H ex pl) tg g)(ht:∀ cl C s H ex pl,sS (blk X sc (lcN X own fr) cl C s H ex pl) ifs tt)(he:∀ cl C s H ex pl,PD (blk X sc (lcN X own fr) cl C s H ex pl) elt te)
  (hs:∀ x,foldedSetIterable iter X.env x=pure x:=by intro _; rfl):PD X (.ListComp elt [⟨tg,iter,ifs,0⟩] sc pos) (u6 di g tt te own.length fr) :=
 eO (adt hc L hi hg ht he hs) λ σ H Q h=>xP h
end
section
variable {X:Cx}{K:PySem.W.Frag}
end
end D
namespace D
open PySem PySem.Spec PyProof.Rows L2
section
variable {X:Cx}{o:Expr}{to:TE}{apos cpos p pos kpos kp:Pos}{j:Nat}
def ab3 (to:TE):TE:=λ σ H Q=>to σ H λ x H1=>∃ a kvs,x=.ref a/\Rd H1 a (.dK kvs)/\∀ v,H1 v=none->Q (.ref v) (upd H1 v (.ext λ h=>h.IsValuesView v a))
theorem vX (ho:PE X o to)(hbase:attributeBase o "values" X.env (eval o X.env)=eval o X.env:=by rfl)(hline:(apos.endLine == cpos.line)=true:=by rfl):PE X (.Call (.Attribute o "values" apos) [] [] cpos) (ab3 to):=by
 intro pins s σ H Q I h
 refine wpAny_Call_method0_late hbase hline (thn (ho pins s σ H _ I h) λ v s1 hq86=>?_)
 obtain ⟨x,H1,I1,r1,a,kvs,ex,hr,q⟩:=hq86
 subst ex
 cases r1
 obtain ⟨hsz,hsys,vs,rel,oo,es,ep,hd⟩:=hr.ok I1.hok
 have dd:s1.heap.DictOf (aX X.prog X.w) a vs:=⟨oo,es,ep,hd⟩
 have hnd:∀ b,Value.ref a=.ref b->∃ ob,s1.heap.get? b=some ob/\ob.dict=none:=λ b e=>by
  cases e
  exact ⟨oo,hd.1,hd.2.1.2.1⟩
 refine ⟨"dict", "dict.values",PySem.F.plainAttrs_dict,PySem.F.slot_dict_values,PySem.F.type_dict_values,dd.typeIs,hnd,Calls.callWith_builtin rfl (PySem.evalArgs_none ?_)⟩
 refine call_meetsIn PySem.F.slot_dict_values dd.typeIs PySem.F.entry_dict_values (PySem.F.args_dict_values_1 _) (meets_dict_values (aX X.prog X.w) a hsys) ⟨⟨vs,dd⟩,?_⟩
 have hv:(s1.heap.push { cls:=.type "dict_values",data:=.fields #[.ref a] }).get? s1.heap.objs.size=some { cls:=.type "dict_values",data:=.fields #[.ref a] }:=Heap.get?_push_size _ rfl
 refine ⟨.ref _,_,I1.laid (a:=s1.heap.objs.size) (o:=.ext λ h=>h.IsValuesView s1.heap.objs.size a) (t':=s1.toks) (λ b ob e=>Heap.get?_push_of_some _ e) (Nat.le_refl _) ⟨⟨_,hv,rfl,rfl⟩,⟨_,hv⟩,λ h1 h2 ⟨ob,e1,e2⟩ k=>⟨ob,k ob e1,e2⟩⟩,rfl,q _ (I1.hok.fresh (Nat.le_refl _))⟩
theorem fG:∀ {ns:List Int} {kvs:List (Key×V)} {vs:List (Key×Value)} {us:List Value},KV kvs vs->kvs.map (·.2)=ns.map V.int->us.length=vs.length->(∀ (i:Nat) v,us[i]? = some v->∃ k,vs[i]? = some (k,v))->IntsAre us ns
 | [],kvs,vs,us,r,h,hl,hp=>by
  have e:kvs=[]:=by simpa using h
  subst e
  cases r
  have e:us=[]:=by simpa using hl
  subst e
  exact .nil
 | n :: ns,kvs,vs,us,r,h,hl,hp=>by
  match kvs,us,r,h,hl,hp with
  | (k,x) :: kvs,u :: us,.cons (b:=b) r1 r2,h,hl,hp =>
   simp only [List.map_cons,List.cons.injEq] at h
   obtain ⟨k',e⟩:=hp 0 u rfl
   simp at e
   have hx:=r1.2
   rw [h.1,e] at hx
   obtain ⟨t,et⟩:=(show ∃ t,u=Value.int n t from hx)
   subst et
   exact .cons n t (fG r2 h.2 (by simpa using hl) λ i v hi=>by simpa using hp (i+1) v (by simpa using hi))
  | [],_,r,h,_,_=>simp at h
  | _ :: _,[],.cons _ _,_,hl,_=>simp at hl
end
section
variable {X:Cx}{o:Expr}{td:TD}{apos cpos p pos kpos kp:Pos}{j:Nat}
def gE (ns:List Int):List W:=ns.map λ n=>.d (.int n)
theorem qA {K:PySem.W.Frag}{H:Hp}:∀ {ns:List Int} {kvs:List (Key×W)} {l:List (Key×V)},kvs.map (·.2)=gE ns->Paired (λ (p:Key×W) (q:Key×V)=>p.1=q.1/\az K H p.2 q.2) kvs l->l.map (·.2)=ns.map V.int
 | [],kvs,l,h,pr=>by
  have e:kvs=[]:=by simpa [gE] using h
  subst e
  cases pr
  rfl
 | n :: ns,kvs,l,h,pr=>by
  match kvs,pr,h with
  | (k,x) :: kvs,.cons r t,h =>
   simp only [gE,List.map_cons,List.cons.injEq] at h
   have hx:=r.2
   rw [h.1] at hx
   simp only [az,ay] at hx
   rw [List.map_cons,hx,qA h.2 t]
   rfl
  | [],_,h=>simp [gE] at h
end
namespace Q
section
variable {X:Cx}{pos:Pos}{e:Expr}{te:TD}
variable {tg a b c iter elt:Expr}{p:Pos}{sc:Scope}{own:List Str}{fr:List Nat}{di:TId}{g:TGd}{tt:TTd}{ifs:List Expr}
theorem vB (hc:X.calm=true)(L:mS X sc own fr)(hi:Jd (PId X tg iter di))
  (hg:∀ cl C s H ex pl,Jd (PGd (blk X sc (lcN X own fr) cl C s H ex pl) tg g))(ht:∀ cl C s H ex pl,Jd (sS (blk X sc (lcN X own fr) cl C s H ex pl) ifs tt))(he:∀ cl C s H ex pl,Jd (PD (blk X sc (lcN X own fr) cl C s H ex pl) elt te))
  (hs:∀ x,foldedSetIterable iter X.env x=pure x:=by intro _; rfl):Jd (PD X (.ListComp elt [⟨tg,iter,ifs,0⟩] sc pos) (u6 di g tt te own.length fr)) :=
 ⟨D.acA hc L hi.h (λ cl C s H ex pl=>(hg cl C s H ex pl).h) (λ cl C s H ex pl=>(ht cl C s H ex pl).h) (λ cl C s H ex pl=>(he cl C s H ex pl).h) hs⟩
variable {o:Expr}{td:TD}{apos cpos kpos kp:Pos}{j:Nat}
theorem nj {t:TAd}{elts:List Expr}{x1:Nat}{tpos:Pos}(hg:Gl X "enumerate")(hm:X.mg "enumerate" = none)(ha:Jd (PAd X [a] t))(h1:df a=false:=by rfl):Jd (PId X (.Tuple elts x1 tpos) (.Call (.Name "enumerate" p) [a] [] pos) (aaT t)):=⟨D.nj hg hm ha.h h1⟩
end
end Q
end D
namespace D
open PySem PySem.Spec PyProof.Rows L2
structure ags (K:PySem.W.Frag)(x qual:Str)(st:Stmt)(f:Addr)(fd:FuncData):Prop where
 ex:∃ (oc:Value) (od:Option Addr) (dV kV doc pm:Value) (an:Option Addr) (cdv ct:Value) (osl:Array (Option Value)),
  fd=PySem.W.fnOf x qual (aN st) (aE st) (ai st) dV kV doc pm an cdv ct/\K.lookup f=some ⟨oc,od,.func fd,osl⟩/\PySem.W.codeIn K cdv qual=true
 kp:PySem.W.keepIn K (.ref f)=true
section
variable {P:Program}{w:World}{K:PySem.W.Frag}{mg:Str->Option Value}{base h:Heap}
theorem abC {x qual:Str}{st:Stmt}{f:Addr}{fd:FuncData}{N ps:List Str}{k:Nat}{sp:SpD}{t:TSd}(F:ags K x qual st f fd)(S:aG N ps (ai st))(len:∀ ws M Q,sp ws M Q->ws.length=ps.length)
  (hbody:∀ (cdv:Value) (A:Around) (outer:List Env) (s:Shared) (H:Hp) (E:XK),cG k (A.deeper (envOfC qual (ai st) s.heap.objs.size f cdv)) ->
   kG (uz CX0 P w K mg base N qual (ai st) f cdv A outer s H E).nox (aE st) t)
  (read:∀ ws M Q,sp ws M Q->t { nx:=λ _ M'=>Q (.d .none) M',rt:=Q } (aQ N ws) M):bV P w K mg base CX0 (k+1) f fd ps (de K sp):=by
 obtain ⟨oc,od,dV,kV,doc,pm,an,cdv,ct,osl,rfl,lk,hcd⟩:=F.ex
 refine yR lk hcd S (λ vs H Q E h=>?_) (λ A outer s H vs Q E hr h=>?_)
 ·obtain ⟨ws,M,Qd,r,_,q,_⟩:=h
  rw [<- r.length]
  exact len _ _ _ q
 ·obtain ⟨ws,M,Qd,r,m,q,kk⟩:=h
  refine ⟨_,L2.PSs.nox (hbody cdv A outer s H E hr),aQ N ws,M,_,hU r m,read ws M Qd q,λ σ' H' τ' M' kp A' q'=>?_,λ v H' w' M' kp r' m' q'=>?_,λ σ' H' τ' M' kp A' q'=>q'.elim,λ σ' H' τ' M' kp A' q'=>q'.elim⟩
  ·exact kk _ H' _ M' kp (by simp [az,ay]) A'.mem q'
  ·exact kk v H' w' M' kp r' m' q'
end
section
variable {X:Cx}{pos p:Pos}{k:Nat}{f:Addr}{fd:FuncData}{ps:List Str}{sp:SpD}{x:Str}{e:Expr}{es:List Expr}{t:TAd}{d:Int}
end
end D
namespace D
open PySem PySem.Spec PyProof.Rows L2
section
variable {X:Cx}{pins:List (Addr×Obj)}{σ:St}{H:Hp}{s:Shared}{h':Heap}
end
section
variable {X:Cx}{a b:Expr}{p pos:Pos}{ta:TA}
end
section
variable {X:Cx}{K:PySem.W.Frag}{a b:Expr}{p pos:Pos}{t:TAd}
end
section
variable {X:Cx}{pos:Pos}
end
end D
namespace Q
open PySem PySem.Spec PyProof.Rows L2 D
section
variable {X:Cx}{a b:Expr}{p pos:Pos}
end
end Q
namespace Stc
open PySem PySem.Spec PyProof.Rows L2 D Rc
abbrev oB:List Str:=["thing"]
def oy:TSd :=
  bh (dIf (dOr (uT (bf (dCB iZ (aj (ar 0) (aj (dC (.t "str")) (aP)))))) (uT (bf (iV aaC aaC (dC (.d (.int 1))) (dCB qo (aj (ar 0) (aP))) (dC (.d (.int 8)))))))
   (dN (dC (.d (.bool false))))
   (cB)) <|
  dN (dCB aeL (aj (dLC (cK (ar 0)) (gN 0) (qt) (iV aaC aaC (dC (.d (.str "a"))) (ar 0) (dC (.d (.str "z")))) 1 []) (aP)))
abbrev lV:List Str:=["thing"]
def lQ:TSd :=
  dN (om (dCB iZ (aj (ar 0) (aj (dC (.t "int")) (aP)))) (yE (dCB iZ (aj (ar 0) (aj (dC (.t "bool")) (aP))))))
abbrev jX:List Str:=["thing", "low", "high"]
def j6 (cn:SpD):TSd :=
  dN (om (bw cn (aj (ar 0) (aP))) (iV aaC aaC (ar 1) (ar 0) (ar 2)))
def Ext (M M':MH):Prop:=∀ q o,M q=some o->M' q=some o
theorem Ext.refl (M:MH):Ext M M:=λ _ _ h=>h
theorem Ext.trans {A B C:MH}(h:Ext A B)(k:Ext B C):Ext A C:=λ q o e=>k q o (h q o e)
theorem Ext.new {M:MH}{p:Addr}{o:MO}(h:M p=none):Ext M (aK M p o):=λ q u e=>cJ e h
theorem Ext.del {M M':MH}{p:Addr}(h:Ext M M')(hp:M p=none):Ext M (jV M' p):=λ q u e=>by
 have hq:q≠p:=aW e hp
 simp only [jV,if_neg hq]
 exact h q u e
theorem Ext.none {M M':MH}{p:Addr}(h:Ext M M')(hp:M' p=none):M p=none:=by
 cases e:M p with
 | none=>rfl
 | some o=>rw [h p o e] at hp; cases hp
theorem Ext.bag {M M':MH}{p:Addr}(h:Ext M M')(hb:Bag M p):Bag M' p:=by
 obtain ⟨a,b,c,ns,e,z⟩:=hb
 exact ⟨a,b,c,ns,h _ _ e,z⟩
theorem gw {α:Type}{gt:TGd}{te:TD}{Q:List PyData->DS->MH->Prop}{τ0:DS}{M:MH}(L:List α)(g:α->W)(f:α->PyData)(S:DS->Prop)(hL:L.length<=1000)(h0:S τ0)
  (step:∀ a∈L,∀ τ,S τ->∀ R:PyData->DS->MH->Prop,(∀ τ2,S τ2->R (f a) τ2 M)->gt (g a) τ M λ τ2 M2=>te τ2 M2 λ y M4=>∃ d,y=.d d/\R d τ2 M4)
  (q:∀ τ,Q (L.map f) τ M) :
  ∃ P:Nat->List PyData->DS->MH->Prop,P 0 [] τ0 M /\
   (∀ i w acc τ M,(L.map g)[i]? = some w->P i acc τ M->acc.length < sizeLine/\gt w τ M λ τ2 M2=>qt τ2 M2 λ b M3=>if b=true then te τ2 M3 λ y M4=>∃ d,y=.d d/\P (i+1) (acc++[d]) τ2 M4 else P (i+1) acc τ2 M3) /\
   ∀ acc τ M,P (L.map g).length acc τ M->Q acc τ M:=by
 refine ⟨λ i acc τ M'=>M'=M/\acc=(L.take i).map f/\S τ,⟨rfl,rfl,h0⟩,?_,?_⟩
 ·rintro i w acc τ M' hw ⟨rfl,rfl,hs⟩
  rw [List.getElem?_map] at hw
  cases e:L[i]? with
  | none=>rw [e] at hw; cases hw
  | some a =>
   rw [e] at hw
   cases hw
   have hi:=(List.getElem?_eq_some_iff.mp e).1
   refine ⟨by rw [List.length_map,List.length_take]; have:=s16; omega,?_⟩
   refine step a (List.mem_of_getElem? e) τ hs (λ d τ2 M4=>M4=M'/\(L.take i).map f++[d]=(L.take (i+1)).map f/\S τ2) λ τ2 h2=>⟨rfl,?_,h2⟩
   rw [List.take_succ,e]
   simp
 ·rintro acc τ M' ⟨rfl,rfl,hs⟩
  rw [List.length_map,List.take_length]
  exact q τ
abbrev Dm:=List (Str×Int)
def gI (r:Str×Int):PyData:=.int r.2
def Dc (M:MH)(a:Addr)(D:Dm):Prop:=M a=some (.dic (ac8 (rk Prod.fst gI D)))
def val (D:Dm)(k:Str):Int:=((fd Prod.fst D k).map (·.2)).getD 0
def more (D:Dm)(k:Str)(n:Int):Dm:=pt Prod.fst D (k,val D k+n)
def vals (D:Dm):List Int:=D.map λ r=>r.2
def dsc (ns:List Int):List Int:=ns.mergeSort λ a b=>decide (a >= b)
def room (rs:List Int)(i:Int):Int:=(rs.map λ m=>if i < m then i else m).sum
def ahj (rs:List Int)(ns:List Int):Bool:=(List.range ns.length).all λ i=>decide ((ns.take (i+1)).sum<=room rs ((i:Int)+1))
def ahf (rs:List Int)(D:Dm):Bool:=ahj rs (dsc (vals D))
def OkR (rs:List Int):Prop:=rs.length<=8/\∀ m∈rs,0<=m/\m<=6
def gr (rs:List Int)(D:Dm)(k:Str):Nat->Int
 | 0=>0
 | n+1=>if ahf rs (more D k ((n:Int)+1))=true then (n:Int)+1 else gr rs D k n
theorem sealed {M:MH}{l:Addr}{o:MO}(hl:M l=none):Ext M (jV (aK M l o) l):=(Ext.new hl).del hl
abbrev Bs:=List (Str×Int)
abbrev As:=List (Str×Str×Int)
def rooms (B:Bs):List Int:=B.map (·.2)
theorem eh {α β:Type}{L:List α}{f:α->β}{i:Nat}{w:β}(h:(L.map f)[i]? = some w):∃ a,L[i]? = some a/\w=f a:=by
 rw [List.getElem?_map] at h
 cases e:L[i]? with
 | none=>rw [e] at h; cases h
 | some a=>rw [e] at h; cases h; exact ⟨a,rfl,rfl⟩
theorem sU {lo:Int}{n i:Nat}{w:W}(h:(iR lo n)[i]? = some w):i < n/\w=.d (.int (lo+(i:Int))):=by
 unfold iR at h
 obtain ⟨j,hj,rfl⟩:=eh h
 obtain ⟨h1,h2⟩:=List.getElem?_eq_some_iff.mp hj
 simp at h1 h2
 subst h2
 exact ⟨h1,rfl⟩
theorem mB {α:Type}{xs:List α}{i:Nat}(hi:i<=xs.length):D.cutD xs none (some (i:Int))=xs.take i:=by
 unfold D.cutD
 have e:HT.sIx xs.length 0 none=0:=rfl
 have e2:HT.sIx xs.length xs.length (some (i:Int))=i:=by
  unfold HT.sIx
  simp
  rw [if_neg (by omega)]
  omega
 rw [e,e2]
 simp
def stp (rs:List Int)(s:Dm×As)(r:Str×Str×Int):Dm×As :=
 (more s.1 r.2.1 (gr rs s.1 r.2.1 r.2.2.toNat),s.2++[(r.1,r.2.1,gr rs s.1 r.2.1 r.2.2.toNat)])
def run (rs:List Int)(A:As):Dm×As:=A.foldl (stp rs) ([],[])
def OkC (A:As):Prop:=A.length<=8/\∀ r∈A,0<=r.2.2/\r.2.2<=6
def due (rs:List Int)(A:As):Bs:=(run rs A).2.map λ r=>(r.1,r.2.2)
def gq (c:Nat):Bool:=decide (97<=c) && decide (c<=122)
def wd (z:Str):Bool:=decide (1<=z.length) && decide (z.length<=8) && z.cps.toList.all gq
theorem aef {z:Str}(h:wd z=true):1<=z.length/\z.length<=8:=by simp [wd] at h; exact h.1
theorem aax {z:Str}(h:wd z=true):∀ c∈z.cps.toList,gq c=true:=by simp only [wd,Bool.and_eq_true,List.all_eq_true] at h; exact h.2
theorem oM {z:Str}(h:wd z=true):yw z=true:=by
 have:=aax h
 unfold yw
 rw [<- Array.all_toList,List.all_eq_true]
 intro c hc
 have:=this c hc
 simp [gq] at this
 simp
 omega
theorem zy {c:Bool}{A B:Prop}(e:c=true)(h:A):if c=true then A else B:=by rw [e]; exact jK h
theorem uk {c:Bool}{A B:Prop}(e:c=false)(h:B):if c=true then A else B:=by rw [e]; exact kI h
theorem lt1 (a b:Nat):decide ([a] < [b])=decide (a < b):=by
 by_cases h:a < b
 ·rw [decide_eq_true h]; exact decide_eq_true (List.cons_lt_cons_iff.mpr (.inl h))
 ·rw [decide_eq_false h]
  refine decide_eq_false λ z=>?_
  rcases List.cons_lt_cons_iff.mp z with q | ⟨_,q⟩
  ·exact h q
  ·exact absurd q (by simp)
theorem af0 (i:Int):kO (.int i) "int" = true:=by simp [kO,tyD]
theorem aeI (i:Int):kO (.int i) "bool" = false:=by simp [kO,tyD]
theorem afZ (z:Str):kO (.str z) "str" = true:=by simp [kO,tyD]
theorem afz (ds:List PyData):kO (.list ds) "list" = true:=by simp [kO,tyD]
theorem aft (ds:List PyData):kO (.tuple ds) "tuple" = true:=by simp [kO,tyD]
def cn:SpD:=λ ws M Q=>∃ i:Int,ws=[.d (.int i)]/\Q (.d (.bool true)) M
theorem pT:∀ ws M Q,cn ws M Q->ws.length=1:=by rintro ws M Q ⟨d,rfl,_⟩; rfl
theorem nQ:∀ ws M Q,cn ws M Q->lQ { nx:=λ _ M'=>Q (.d .none) M',rt:=Q } (aQ lV ws) M:=by
 rintro ws M Q ⟨i,rfl,k⟩
 refine ⟨_,rfl,_,_,_,rfl,.d,.int,_,rfl,?_⟩
 rw [af0]
 refine jK ⟨_,rfl,_,_,_,rfl,.d,.bool,_,rfl,?_⟩
 rw [aeI]
 exact k
def bO:SpD:=λ ws M Q=>∃ i lo hi:Int,ws=[.d (.int i),.d (.int lo),.d (.int hi)]/\lo<=i/\i<=hi/\Q (.d (.bool true)) M
theorem nP:∀ ws M Q,bO ws M Q->ws.length=3:=by rintro ws M Q ⟨i,lo,hi,rfl,_⟩; rfl
theorem kN:∀ ws M Q,bO ws M Q->j6 cn { nx:=λ _ M'=>Q (.d .none) M',rt:=Q } (aQ jX ws) M:=by
 rintro ws M Q ⟨i,lo,hi,rfl,h1,h2,k⟩
 refine ⟨_,rfl,i,rfl,_,rfl,jK ⟨_,rfl,_,rfl,.inl ⟨_,_,rfl,rfl,_,rfl,?_⟩⟩⟩
 rw [decide_eq_true h1]
 refine jK ⟨_,rfl,.inl ⟨_,_,rfl,rfl,?_⟩⟩
 rw [show ((λ i j:Int=>PyData.bool (decide (i<=j))) i hi)=.bool true from congrArg PyData.bool (decide_eq_true h2)]
 exact k
def bu:SpD:=λ ws M Q=>∃ z:Str,ws=[.d (.str z)]/\wd z=true/\Q (.d (.bool true)) M
theorem q0:∀ ws M Q,bu ws M Q->ws.length=1:=by rintro ws M Q ⟨d,rfl,_⟩; rfl
theorem o7:∀ ws M Q,bu ws M Q->oy { nx:=λ _ M'=>Q (.d .none) M',rt:=Q } (aQ oB ws) M:=by
 rintro ws M Q ⟨z,rfl,hz,k⟩
 have hl:=aef hz
 have hfit:yz (.d (.str z))=true:=decide_eq_true (few (by omega))
 refine ⟨_,rfl,_,_,_,rfl,.d,.str,_,rfl,?_⟩
 rw [afZ]
 refine kI ⟨_,rfl,_,_,rfl,rfl,hfit,.inl ⟨_,_,rfl,rfl,_,rfl,?_⟩⟩
 rw [decide_eq_true (show (1:Int)<=(z.length:Nat) by omega)]
 refine jK (.inl ⟨_,_,rfl,rfl,_,rfl,?_⟩)
 rw [decide_eq_true (show ((z.length:Nat):Int)<=8 by omega)]
 refine kI ⟨_,rfl,_,rfl,?_⟩
 dsimp only
 have ea:("a" : Str).cps.toList=[97]:=by decide +kernel
 have ez:("z" : Str).cps.toList=[122]:=by decide +kernel
 refine gw z.cps.toList (λ c=>W.d (.str ⟨#[c]⟩)) (λ c=>.bool true) (λ τ=>∃ x,τ=[x]) (by rw [str_len]; omega) ⟨_,rfl⟩ (λ c hc τ hτ R h=>?_) (λ τ=>?_)
 ·obtain ⟨x,rfl⟩:=hτ
  have hs:=aax hz c hc
  simp [gq] at hs
  have q1:(!decide ((⟨#[c]⟩:Str).cps.toList < ("a" : Str).cps.toList))=true:=by rw [ea,show (⟨#[c]⟩:Str).cps.toList=[c] from rfl,lt1]; simp; omega
  have q2:(!decide (("z" : Str).cps.toList < (⟨#[c]⟩:Str).cps.toList))=true:=by rw [ez,show (⟨#[c]⟩:Str).cps.toList=[c] from rfl,lt1]; simp; omega
  refine ⟨_,rfl,.inr ⟨_,_,rfl,rfl,_,rfl,?_⟩⟩
  refine zy q1 (.inr ⟨_,_,rfl,rfl,?_⟩)
  refine ⟨_,rfl,?_⟩
  have:=h [some (.d (.str ⟨#[c]⟩))] ⟨_,rfl⟩
  rw [<- q2] at this
  exact this
 ·refine ⟨z.cps.toList.map λ _=>true,by rw [List.map_map]; rfl,?_⟩
  rw [show (z.cps.toList.map λ _=>true).all id=true from by rw [List.all_eq_true]; intro b hb; obtain ⟨_,_,rfl⟩:=List.mem_map.mp hb; rfl]
  exact k
def afF (r:Str×Int):Prop:=wd r.1=true/\0<=r.2/\r.2<=6
theorem ahF:PyData.eqv (.int ((2:Nat):Int)) (.int 2)=true:=by decide +kernel
def lsS (a b:Str):Bool:=decide (a.cps.toList < b.cps.toList)
structure OkB (B:Bs):Prop where
 len:B.length<=8
 row:∀ r∈B,afF r
 up:∀ i r s,B[i]? = some r->B[i+1]? = some s->lsS r.1 s.1=true
theorem zG {α:Type}{L:List α}{f:α->PyData}{i:Nat}{w:W}(h:(uP (L.map f))[i]? = some w):∃ r,L[i]? = some r/\w=.d (.tuple [.int (i:Nat),f r]):=by
 unfold uP at h
 rw [List.getElem?_map] at h
 have hi:i < L.length:=by
  by_cases q:i < L.length
  ·exact q
  ·rw [List.getElem?_eq_none (by simpa using q)] at h; cases h
 rw [List.getElem?_range (by simpa using hi)] at h
 cases h
 refine ⟨L[i],List.getElem?_eq_getElem hi,?_⟩
 simp [List.getD,List.getElem?_map,List.getElem?_eq_getElem hi]
theorem adC {α:Type}{M:MH}{L:List α}{f:α->PyData}{i:Nat}{r:α}{j:Int}(hj:j=(i:Int))(h:L[i]? = some r):ixW M (.d (.list (L.map f))) j=some (.d (f r)):=by
 subst hj
 have hi:=(List.getElem?_eq_some_iff.mp h).1
 simp only [ixW,atI]
 rw [vo (by omega) (by rw [List.length_map]; omega)]
 simp [h]
structure ahy (r:Str×Str×Int):Prop where
 w:wd r.1=true
 k:wd r.2.1=true
 c0:0<=r.2.2
 c6:r.2.2<=6
structure OkA (A:As):Prop where
 len:A.length<=8
 row:∀ r∈A,ahy r
 nd:(A.map λ r=>r.1).Nodup
theorem jz {L:List Str}(h:L.Nodup){i:Nat}{z:Str}(e:L[i]? = some z):z ∉ L.take i:=by
 intro hm
 obtain ⟨j,hj,ej⟩:=List.getElem_of_mem hm
 rw [List.length_take] at hj
 rw [List.getElem_take] at ej
 obtain ⟨hi,ei⟩:=List.getElem?_eq_some_iff.mp e
 have:=(List.getElem_inj (h₀:=by omega) (h₁:=hi) h).mp (ej.trans ei.symm)
 omega
def rQ (k:Nat):Str:=Txt.mul ⟨#[("abcdefgh" : Str).cps.toList.getD k 0]⟩ (1+(0+(k:Int)) % 2)
theorem zE {α:Type}{xs:List α}{t:Int}(h:0<=t):D.cutD xs (some t) none=xs.drop t.toNat:=by
 unfold D.cutD
 have e:HT.sIx xs.length xs.length none=xs.length:=rfl
 have e2:HT.sIx xs.length 0 (some t)=min t.toNat xs.length:=by
  unfold HT.sIx
  dsimp only
  rw [if_neg (by omega)]
 rw [e,e2]
 by_cases q:t.toNat<=xs.length
 ·rw [Nat.min_eq_left q,<- List.length_drop,List.take_length]
 ·rw [Nat.min_eq_right (by omega),List.drop_of_length_le (Nat.le_refl _),List.drop_of_length_le (by omega)]
  simp
end Stc
namespace HT
open PySem PyProof.Rows
section
open PySem.SeqAt
open PySem.AutoSeq1 (wpAny_loadPart')
open PySem.MeetsSeq PySem.MeetsSeq2 PySem.MeetsSeq3
end
section
variable {prog:Program}{w:World}{A:Around}{E:Value->Shared->Prop}{s:Shared}
end
end HT
namespace D
open PySem PySem.Spec PyProof.Rows L2
section
variable {X:Cx}{K:PySem.W.Frag}
end
end D
namespace Stc
open PySem PySem.Spec PyProof.Rows L2 D Rc
def exc (t:Int)(xs:List Int):Int:=(xs.map λ x=>if t < x then x - t else 0).sum
theorem wu {n i:Nat}{w:W}(h:(iR 0 n)[i]? = some w):i < n/\w=.d (.int (i:Int)):=by
 obtain ⟨h1,h2⟩:=sU h
 rw [Int.zero_add] at h2
 exact ⟨h1,h2⟩
def Dom (xs ys:List Int):Prop:=∀ t,0<=t->exc t xs<=exc t ys
end Stc
namespace D
open PySem PySem.Spec PyProof.Rows L2
section
variable {X:Cx}{o:Expr}{to:TE}{p pos kpos kp:Pos}{j:Nat}
end
section
variable {X:Cx}{o:Expr}{td:TD}{p pos kpos kp:Pos}{j:Nat}
end
end D
namespace Q
open PySem PySem.Spec PyProof.Rows L2 D
section
variable {X:Cx}{o:Expr}{td:TD}{p pos kpos kp:Pos}{j:Nat}
end
end Q
namespace L2
open PySem PySem.Spec PyProof.Rows
section
variable {prog:Program}{w:World}{A:Around}{E:Value->Shared->Prop}{R:Result->Shared->Prop}{s:Shared}
theorem mW {kx vx target iter:Expr}{ifs:List Expr}{scope:Scope}{pos:Pos}{it:Value}{D:Addr}{env:Env}(I:Nat->Shared->Prop)
  (turn:∀ n s,I n s->wpAny (model prog w) A (pyNext it) (λ r s₁=>match r with
   | none=>R (.ok .next) s₁
   | some v=>wpAny (model prog w) A (letOwnedTupleGo target it v) (λ _ s₁'=>wpAny (model prog w) A (assign target env v) (λ _ s₂ =>
     wpAny (model prog w) A (qV ifs env) (λ ok s₃ =>
      if ok=true then wpAny (model prog w) A (eval kx env) (λ kv s₄=>wpAny (model prog w) A (eval vx env) (λ vv s₅ =>
       wpAny (model prog w) A (dictSet D kv vv) (λ _ s₆=>∃ m,m < n/\I m s₆) (λ _ _=>False) s₅) (λ _ _=>False) s₄) (λ _ _=>False) s₃
      else ∃ m,m < n/\I m s₃) (λ _ _=>False) s₂) (λ _ _=>False) s₁') (λ _ _=>False) s₁) (λ _ _=>False) s)
  (n:Nat)(h:I n s) :
  codeAny (model prog w) A (.compLoop (.DictComp kx vx [⟨target,iter,ifs,0⟩] scope pos) 0 it (.ref D) env) R s:=by
 refine codeAny_loop rfl I (λ n s hI=>?_) n h
 show wpAny _ A ((compTurn (.DictComp kx vx [⟨target,iter,ifs,0⟩] scope pos) 0 it (.ref D) env).onRaise (λ x=>do noteFrame x env; theTreesLotGoes x)) _ _ s
 refine wpAny_noted ?_
 rw [compTurn_dict]
 refine wpAny_bind (wpAny_standAt (wpAny_bind (wpAny_mono (turn n s hI) (λ r s₁ h₁=>?_) λ _ _ h'=>h'.elim)))
 cases r with
 | none=>exact wpAny_pure h₁
 | some v =>
  refine wpAny_bind (wpAny_mono h₁ (λ _ s₁' h₁'=>?_) λ _ _ h'=>h'.elim)
  refine wpAny_bind (wpAny_mono h₁' (λ _ s₂ h₂=>wpAny_bind (wpAny_mono h₂ (λ ok s₃ h₃=>?_) λ _ _ h'=>h'.elim)) λ _ _ h'=>h'.elim)
  cases ok with
  | false=>exact wpAny_pure ⟨rfl,h₃⟩
  | true =>
   refine wpAny_bind ?_
   refine wpAny_bind (wpAny_mono h₃ (λ kv s₄ h₄=>wpAny_bind (wpAny_holding (wpAny_mono h₄ (λ vv s₅ h₅=>wpAny_bind (wpAny_standAt (wpAny_holding (wpAny_mono h₅ (λ _ s₆ h₆=>wpAny_pure ⟨rfl,h₆⟩) λ _ _ h'=>h'.elim)))) λ _ _ h'=>h'.elim))) λ _ _ h'=>h'.elim)
end
section
variable {X:Cx}{pins:List (Addr×Obj)}{σ:St}{H:Hp}{s:Shared}{a:Addr}{u r:Value}{v:V}{A:Around}{E:Value->Shared->Prop}
theorem wL {kvs:List (Key×V)}{k:Key}{Q:Unit->Shared->Prop}(I:Inv X pins σ H s)(e:H a=some (.dK kvs))(l:kvs.length < sizeLine)(ry:RelV (kV k) u)(rv:RelV v r)(h:∀ s',Inv X pins σ (upd H a (.dK (putK kvs k v))) s'->Q () s') :
  wpAny (model X.prog X.w) A (dictSet a u r) Q E s:=by
 obtain ⟨z,hd,vs,rel,dd⟩:=yK I.hok e
 have hz:vs.length<=sizeLine:=by rw [<- rel.length]; exact z
 have hl:(putK kvs k v).length<=sizeLine:=by have:=eV kvs k v; omega
 refine wpAny_dictSet_pairs (hsz:=hz) (oJ ry) dd λ h' dd' hs=>h _ ?_
 have he:∃ q,h'.get? a=some q:=let ⟨q,_,_,hq,_⟩:=dd'; ⟨q,hq⟩
 exact jT I (by rw [e]; exact True.intro) hs he (tj hl hd (rel.put k rv) dd')
end
abbrev DcW:=Nat->Nat->St->Hp->Prop
def aaj (J:It)(g:TG)(tt:TT)(tk tv:TE)(D:Addr)(W:DcW)(Fin:Hp->Prop):Prop:=∀ i m τ H,W i m τ H ->
 (J.stop i H/\Fin H)\/(J.go i H/\∀ x H',J.yld i H x H'->g x τ H' λ τ2 H2=>tt τ2 H2 λ b H3 =>
  if b=true then tk τ2 H3 λ y H4=>tv τ2 H4 λ z H5=>∃ kvs k,H5 D=some (.dK kvs)/\y=kV k/\kvs.length < sizeLine/\∃ m',m' < m/\W (i+1) m' τ2 (upd H5 D (.dK (putK kvs k z))) else ∃ m',m' < m/\W (i+1) m' τ2 H3)
section
variable {X:Cx}{pins:List (Addr×Obj)}{σ:St}{H:Hp}{s:Shared}{sc:Scope}{own:List Str}{fr:List Nat}{cl:List (Str×Addr)}{fp:List Addr}{it D:Addr}{J:It}{tn:Nat->Heap->Prop}{g:TG}{tt:TT}{tk tv:TE}{W:DcW}{Fin:Hp->Prop}
 {kx vx tg iter:Expr}{ifs:List Expr}{pos:Pos}{E:Value->Shared->Prop}
theorem abU {RR:Addr->Result->Shared->Prop}(hc:X.calm=true)(L:mS X sc own fr)(hcl1:∀ n c,cl.lookup n=some c->X.env.cells.lookup n=some c)(hcl2:∀ n,(n,NameKind.free)∈sc.names->∃ c,cl.lookup n=some c)
  (hg:∀ C s H ex pl,PG (blk X sc (lcN X own fr) cl C s H ex pl) tg g)(ht:∀ C s H ex pl,PTs (blk X sc (lcN X own fr) cl C s H ex pl) ifs tt)(hk:∀ C s H ex pl,PE (blk X sc (lcN X own fr) cl C s H ex pl) kx tk)(hv:∀ C s H ex pl,PE (blk X sc (lcN X own fr) cl C s H ex pl) vx tv)
  (I:Inv X pins σ H s)(T:Turn X.prog X.w X.K tg J fp it tn)(st:tn 0 s.heap)(hf:∀ b∈fp,kJ X pins H b)(w0:∃ m,W 0 m (lcS own.length fr σ) H)(turn:aaj J g tt tk tv D W Fin)
  (hRR:∀ (C:Addr) (s':Shared) (H':Hp) (m:Str->Option Value),Inv X pins σ H' s'->H' C=none->s.heap.objs.size<=C->s'.heap.Ns C m->Fin H'->RR C (.ok .next) s') :
  wpAny (model X.prog X.w) X.A (newFunctionEnv sc X.env.globals cl [] X.env.qual none .none (some X.env)) (λ cenv s₄ =>
   codeAny (model X.prog X.w) X.A (.compStart (.DictComp kx vx [⟨tg,iter,ifs,0⟩] sc pos) 0 (.ref it) (.ref D) { cenv with scope:=relabel sc X.env }) (RR cenv.locals) s₄) E s:=by
 refine wpAny_newFunctionEnv L.cell (by intro y hy; simp at hy) (λ h₁ hns₁ hsb₁=>?_) L.kind
 try dsimp only at hns₁ hsb₁ ⊢
 have below:∀ b,b < s.heap.objs.size->b≠s.heap.objs.size:=λ b hb=>Nat.ne_of_lt hb
 have old:∀ b o,s.heap.get? b=some o->h₁.get? b=some o:=λ b o e=>hsb₁.extBut b o (below b (Heap.lt_size e)) (Heap.get?_push_of_some _ e)
 have hfb:∀ b∈fp,b < s.heap.objs.size:=λ b hb=>by
  obtain ⟨o,e,_⟩:=T.obj 0 _ st b hb
  exact Heap.lt_size e
 have I1:Inv (blk X sc (lcN X own fr) cl s.heap.objs.size s H fp pins) [] (lcS own.length fr σ) H { s with heap:=h₁,toks:=s.toks+([]:List (Str×Value)).length }:=vT L I hf hfb (Nat.le_refl _) hcl1 hcl2 hns₁ old
 have st1:tn 0 h₁:=T.keep 0 _ _ st λ b _ o e=>old b o e
 generalize hY:blk X sc (lcN X own fr) cl s.heap.objs.size s H fp pins=Y at I1
 have hYp:Y.prog=X.prog:=by rw [<- hY]; rfl
 have hYw:Y.w=X.w:=by rw [<- hY]; rfl
 have hYK:Y.K=X.K:=by rw [<- hY]; rfl
 have hYA:Y.A=X.A:=by rw [<- hY]; rfl
 have hYc:Y.calm=true:=by rw [<- hY]; exact hc
 have hYe:Y.env=compEnvC sc cl s.heap.objs.size X.env:=by rw [<- hY]; rfl
 have hYx:Y.xe=λ _ _=>False:=by rw [<- hY]; rfl
 have hYpn:Y.pn=X.pn++pins:=by rw [<- hY]; rfl
 have hYs:Y.s₀=s:=by rw [<- hY]; rfl
 have hYH:Y.H₀=H:=by rw [<- hY]; rfl
 have hYex:Y.ex=fp:=by rw [<- hY]; rfl
 have hYfs:Y.fs=frs X.stack:=by rw [<- hY]; rfl
 have gY:=hg s.heap.objs.size s H fp pins
 have tY:=ht s.heap.objs.size s H fp pins
 have kY:=hk s.heap.objs.size s H fp pins
 have vY:=hv s.heap.objs.size s H fp pins
 rw [hY] at gY tY kY vY
 have fpY:∀ {H':Hp},(∀ b∈fp,H' b=none)->∀ b∈fp,kJ Y [] H' b:=λ {H'} hn b hb=>by
  obtain ⟨_,f1,f2,f3,f4,f5⟩:=hf b hb
  refine ⟨hn b hb,by rw [hYe]; exact below b (hfb b hb),?_,.inl (by rw [hYex]; exact hb),λ x c e=>?_,λ p q=>?_⟩
  ·rw [hYfs]
   intro z
   rcases List.mem_cons.mp (I.iO _ z) with e | e
   ·exact f1 e
   ·exact f2 e
  ·rw [hYe] at e
   exact f4 x c (hcl1 _ _ e)
  ·rw [List.append_nil,hYpn] at q
   exact f5 p q
 have loop:∀ s₃:Shared,s₃={ s with heap:=h₁,toks:=s.toks+([]:List (Str×Value)).length } ->
   codeAny (model X.prog X.w) X.A (.compLoop (.DictComp kx vx [⟨tg,iter,ifs,0⟩] sc pos) 0 (.ref it) (.ref D) (compEnvC sc cl s.heap.objs.size X.env)) (RR s.heap.objs.size) s₃:=by
  rintro s₃ rfl
  obtain ⟨m0,w0⟩:=w0
  refine mW (λ n s'=>∃ i τ H',Inv Y [] τ H' s'/\tn i s'.heap/\(∀ b∈fp,H' b=none)/\W i n τ H') ?_ m0 ⟨0,_,H,I1,st1,λ b hb=>(hf b hb).1,w0⟩
  rintro n s' ⟨i,τ,H',I',st',hn',w'⟩
  rcases turn i n τ H' w' with ⟨stop,fin⟩ | ⟨go,step⟩
  ·have q:=T.done Y hYp hYw hYK hYc i _ s' τ H' (λ _ _=>False) I' (fpY hn') st' stop
   rw [hYA] at q
   refine thn q λ r s4 hq87=>?_
   obtain ⟨hr,I4⟩:=hq87
   subst hr
   have un:Un (frs X.stack) fp H H' s.heap s4.heap:=by
    have z:=I4.base
    rw [hYfs,hYex,hYH,hYs] at z
    exact z
   have os4:s4.os=s.os:=by
    have z:=I4.os
    rw [hYs] at z
    exact z
   have hok4:HOk X.prog X.w H' s4.heap:=by
    have z:=I4.hok
    rw [hYp,hYw] at z
    exact z
   have hch:∀ b∈fp,(b∈X.ex\/X.s₀.heap.objs.size<=b)/\b≠X.env.locals/\(∀ x c,X.env.cells.lookup x=some c->c≠b)/\∀ p∈X.pn++pins,p.1≠b:=λ b hb=>by
    obtain ⟨_,f1,f2,f3,f4,f5⟩:=hf b hb
    exact ⟨f3,f1,f4,f5⟩
   have IX:Inv X pins σ H' s4:=I.abb os4 un hok4 I4.bare hch
   obtain ⟨mC,hmC,_⟩:=I4.loc
   have hCf:=I4.free
   rw [hYe] at hmC hCf
   exact hRR _ s4 H' mC IX hCf (Nat.le_refl _) hmC fin
  ·have q:=T.item Y hYp hYw hYK hYc i _ s' τ H' (λ _ _=>False) I' (fpY hn') st' go
   rw [hYA] at q
   refine thn q λ r s4 hq88=>?_
   obtain ⟨u,hr,h4⟩:=hq88
   subst hr
   refine thn h4 λ _ s5 hq89=>?_
   obtain ⟨x,H5,I5,r5,y5,st5,fr5⟩:=hq89
   have I5':=I5.pinned (fpY fr5) (T.obj _ _ st5)
   have g5:=gY _ s5 τ H5 x u _ I5' r5 (step x H5 y5)
   rw [hYp,hYw,hYA,hYe,hYx] at g5
   refine thn g5 λ _ s6 hq90=>?_
   obtain ⟨σ6,H6,I6,q6⟩:=hq90
   have t6:=tY _ s6 σ6 H6 _ I6 q6
   rw [hYp,hYw,hYA,hYe,hYx] at t6
   refine thn t6 λ ok s7 hq91=>?_
   obtain ⟨H7,I7,q7⟩:=hq91
   have keepI:∀ {σ8:St} {H8:Hp} {s8:Shared},Inv Y ([]++kj fp s5.heap) σ8 H8 s8->tn (i+1) s8.heap/\∀ b∈fp,H8 b=none :=
    λ {σ8 H8 s8} I8=>by
     refine ⟨T.keep _ _ _ st5 λ b hb o e=>(I8.pin (b,o) (List.mem_append_right _ (List.mem_append_right _ (dz hb e)))).1,λ b hb=>?_⟩
     obtain ⟨o,e,d⟩:=T.obj _ _ st5 b hb
     exact (I8.pin (b,o) (List.mem_append_right _ (List.mem_append_right _ (dz hb e)))).2.1
   cases ok with
   | false =>
    rw [if_neg Bool.false_ne_true] at q7 ⊢
    obtain ⟨m',hm',w7⟩:=q7
    obtain ⟨c7,d7⟩:=keepI I7
    exact ⟨m',hm',i+1,σ6,H7,I7.ee (λ p hp=>(nomatch hp)),c7,d7,w7⟩
   | true =>
    rw [if_pos rfl] at q7 ⊢
    have e7:=kY _ s7 σ6 H7 _ I7 q7
    rw [hYp,hYw,hYA,hYe,hYx] at e7
    refine thn e7 λ ku s8 hq92=>?_
    obtain ⟨y,H8,I8,r8,q8⟩:=hq92
    have e8:=vY _ s8 σ6 H8 _ I8 q8
    rw [hYp,hYw,hYA,hYe,hYx] at e8
    refine thn e8 λ vu s9 hq93=>?_
    obtain ⟨z,H9,I9,r9,kvs,k,hD,ey,hlt,m',hm',w9⟩:=hq93
    subst ey
    have r8':RelV (kV k) ku:=r8
    have q9:=wL (A:=X.A) (E:=λ _ _=>False) (Q:=λ _ s₆=>∃ m,m < n/\∃ i τ H',Inv Y [] τ H' s₆/\tn i s₆.heap/\(∀ b∈fp,H' b=none)/\W i m τ H') I9 hD hlt r8' r9 λ s10 I10=>by
     obtain ⟨c8,d8⟩:=keepI I10
     exact ⟨m',hm',i+1,σ6,_,I10.ee (λ p hp=>(nomatch hp)),c8,d8,w9⟩
    rw [hYp,hYw] at q9
    exact q9
 exact codeAny_compStart_dict (loop _ rfl) (T.self _ 0 _ _ _ st1 (loop _ rfl))
def tDC (wi:TI)(g:TG)(tt:TT)(tk tv:TE)(k:Nat)(fr:List Nat):TE:=λ σ H Q=>wi σ H λ J H1=>∀ p,H1 p=none->∃ W:DcW,(∃ m,W 0 m (lcS k fr σ) (upd H1 p (.dK [])))/\aaj J g tt tk tv p W λ H2=>Q (.ref p) H2
theorem agz {wi:TI}(hc:X.calm=true)(L:mS X sc own fr)(hi:PI X tg iter wi)
  (hg:∀ cl C s H ex pl,PG (blk X sc (lcN X own fr) cl C s H ex pl) tg g)(ht:∀ cl C s H ex pl,PTs (blk X sc (lcN X own fr) cl C s H ex pl) ifs tt)(hk:∀ cl C s H ex pl,PE (blk X sc (lcN X own fr) cl C s H ex pl) kx tk)(hv:∀ cl C s H ex pl,PE (blk X sc (lcN X own fr) cl C s H ex pl) vx tv)
  (hs:∀ x,foldedSetIterable iter X.env x=pure x:=by intro _; rfl):PE X (.DictComp kx vx [⟨tg,iter,ifs,0⟩] sc pos) (tDC wi g tt tk tv own.length fr):=by
 intro pins s σ H Q I h
 obtain ⟨cl,hcl,c1,c2⟩:=iD L I.ok
 show wpAny _ _ (comprehension (.DictComp kx vx [⟨tg,iter,ifs,0⟩] sc pos) sc X.env _ newDict false (eval iter X.env)) _ _ _
 refine wpAny_comprehension_free (use:=none) (g:=⟨tg,iter,ifs,0⟩) (gs:=[]) rfl hs hcl L.kind L.names ?_
 refine thn (hi pins s σ H _ I h) λ v s1 h1=>thn h1 λ itv s2 h2=>?_
 obtain ⟨it,fp,tn,J,H2,e,I2,T,st2,f2,q2⟩:=h2
 subst e
 obtain ⟨W,w0,turn⟩:=q2 _ (I2.hok.fresh (Nat.le_refl s2.heap.objs.size))
 refine wpAny_newObj_type ?_
 have I3:=I2.laid (a:=s2.heap.objs.size) (o:=.dK []) (h':=s2.heap.push { cls:=.type "dict",data:=.dict #[] }) (t':=s2.toks) (λ _ _ q=>Heap.get?_push_of_some _ q) (Nat.le_refl _) (mE s2.heap I2.big)
 have hfb:∀ b∈fp,b < s2.heap.objs.size:=λ b hb=>by
  obtain ⟨o,e,_⟩:=T.obj 0 _ st2 b hb
  exact Heap.lt_size e
 have f3:∀ b∈fp,kJ X pins (upd H2 s2.heap.objs.size (.dK [])) b:=λ b hb=>by
  obtain ⟨f0,fr⟩:=f2 b hb
  exact ⟨by rw [ao (Nat.ne_of_lt (hfb b hb))]; exact f0,fr⟩
 have st3:tn 0 (s2.heap.push { cls:=.type "dict",data:=.dict #[] }):=T.keep 0 _ _ st2 λ b _ o e=>Heap.get?_push_of_some _ e
 refine abU (cl:=cl) hc L c1 c2 (hg cl) (ht cl) (hk cl) (hv cl) I3 T st3 f3 w0 turn λ C s' H' m I' hC dC hns fin=>?_
 refine ⟨m,hns,λ h' sb=>?_⟩
 have hC2:s2.heap.objs.size<=C:=Nat.le_trans (by rw [Heap.size_push]; exact Nat.le_succ _) dC
 obtain ⟨_,z2,_,_,z3,z4⟩:=I2.sy (H':=λ _=>none) hC2 rfl
 have I4:Inv X pins σ H' { s' with heap:=h' }:=I'.turned (t':=s'.toks) (λ b o hb e=>sb.extBut b o hb e) hC z2 (.inr (Nat.le_trans I2.sz hC2)) z3 z4
 exact ⟨.ref _,_,I4,rfl,fin⟩
end
end L2
namespace D
open PySem PySem.Spec PyProof.Rows L2
section
variable {K:PySem.W.Frag}
def dDC (di:TId)(g:TGd)(tt:TTd)(tk tv:TD)(k:Nat)(fr:List Nat)(τ:DS)(M:MH)(Q:QD):Prop:=di τ M λ ws M1=>∀ p,M1 p=none->∃ P:Nat->DS->MH->Prop,P 0 (abe k fr τ) (aK M1 p (.dic [])) /\
 (∀ i w τ M,ws[i]? = some w->P i τ M->g w τ M λ τ2 M2=>tt τ2 M2 λ b M3=>if b=true then tk τ2 M3 λ y M4=>tv τ2 M4 λ z M5=>∃ kvs key,M5 p=some (.dic kvs)/\y=kW key/\kvs.length < sizeLine/\P (i+1) τ2 (aK M5 p (.dic (p9 kvs key z))) else P (i+1) τ2 M3) /\
 ∀ τ M,P ws.length τ M->Q (.m p) M
theorem adO {di:TId}{g:TGd}{tt:TTd}{tk tv:TD}{k:Nat}{fr:List Nat}{σ:St}{H:Hp}{Q:VK}(h:up K (dDC di g tt tk tv k fr) σ H Q) :
  tDC (upI K di) (upG K g) (upT K tt) (up K tk) (up K tv) k fr σ H Q:=by
 obtain ⟨τ,M,Qd,A,h,kk⟩:=h
 refine ⟨τ,M,_,A,h,λ J H1 ws M1 kp m1 it hall p hp=>?_⟩
 obtain ⟨P,p0,pt,pe⟩:=hall p (m1.free hp)
 have kpn:Kp H1 (upd H1 p (.dK [])):=Kp.new hp
 have mn:cm K (upd H1 p (.dK [])) (aK M1 p (.dic [])):=m1.put (mo:=.dic []) kpn ⟨_,au,.nil⟩
 refine ⟨λ i n σ' H'=>n=ws.length - i/\i<=ws.length/\Kp (upd H1 p (.dK [])) H'/\∃ τ M,Abs K H' σ' τ M/\P i τ M,⟨ws.length,by simp,Nat.zero_le _,Kp.refl _,_,_,tq (A.go (kp.trans kpn) mn) k fr,p0⟩,?_⟩
 rintro i n σ2 H2 ⟨rfl,hi,kp2,τ2,M2,A2,p2⟩
 obtain ⟨go,stop,yld⟩:=it H2 (kpn.trans kp2) i
 by_cases hlt:i < ws.length
 ·refine .inr ⟨go hlt,λ x H3 y=>?_⟩
  obtain ⟨kp3,mk,w,ew,rw⟩:=yld x H3 hlt y
  refine ⟨w,τ2,M2,_,rw,A2.go kp3 (mk _ A2.mem),pt i w τ2 M2 ew p2,λ σ4 H4 τ4 M4 kp4 A4 q4=>⟨τ4,M4,_,A4,q4,λ b H5 M5 kp5 m5 q5=>?_⟩⟩
  have kq:=(kp3.trans kp4).trans kp5
  cases b with
  | false =>
   rw [if_neg Bool.false_ne_true] at q5
   exact kI ⟨ws.length - (i+1),by omega,rfl,hlt,kp2.trans kq,τ4,M5,A4.go kp5 m5,q5⟩
  | true =>
   rw [if_pos rfl] at q5
   refine jK ⟨τ4,M5,_,A4.go kp5 m5,q5,λ ky H6 wy M6 kp6 r6 m6 q6=>⟨τ4,M6,_,A4.go (kp5.trans kp6) m6,q6,λ v H7 wv M7 kp7 r7 m7 hq94=>?_⟩⟩
   obtain ⟨kvs,key,hm,ey,hl,q7⟩:=hq94
   subst ey
   obtain ⟨l,e,pr⟩:=m7 _ _ hm
   have kp8:Kp H7 (upd H7 p (.dK (putK l key v))):=Kp.set e (λ _ z=>nomatch z) (λ _ _ z=>nomatch z)
   refine ⟨l,key,e,hZ r6,by rw [<- jq pr]; exact hl,ws.length - (i+1),by omega,rfl,hlt,kp2.trans (((kq.trans kp6).trans kp7).trans kp8),τ4,_,A4.go (((kp5.trans kp6).trans kp7).trans kp8) (m7.put (mo:=.dic (p9 kvs key wv)) kp8 ⟨_,au,?_⟩),q7⟩
   exact Paired.je (sF key r7 pr) λ p q z=>⟨z.1,z.2.keep kp8⟩
 ·have hl:i=ws.length:=by omega
  subst hl
  refine .inl ⟨stop (Nat.le_refl _),?_⟩
  exact kk _ H2 (.m p) M2 (kp.trans (kpn.trans kp2)) rfl A2.mem (pe τ2 M2 p2)
variable {X:Cx}{sc:Scope}{own:List Str}{fr:List Nat}{di:TId}{g:TGd}{tt:TTd}{tk tv:TD}{tg iter kx vx:Expr}{ifs:List Expr}{pos:Pos}
theorem aeh (hc:X.calm=true)(L:mS X sc own fr)(hi:PId X tg iter di)
  (hg:∀ cl C s H ex pl,PGd (blk X sc (lcN X own fr) cl C s H ex pl) tg g)(ht:∀ cl C s H ex pl,sS (blk X sc (lcN X own fr) cl C s H ex pl) ifs tt)(hk:∀ cl C s H ex pl,PD (blk X sc (lcN X own fr) cl C s H ex pl) kx tk)(hv:∀ cl C s H ex pl,PD (blk X sc (lcN X own fr) cl C s H ex pl) vx tv)
  (hs:∀ x,foldedSetIterable iter X.env x=pure x:=by intro _; rfl):PD X (.DictComp kx vx [⟨tg,iter,ifs,0⟩] sc pos) (dDC di g tt tk tv own.length fr) :=
 eO (agz hc L hi hg ht hk hv hs) λ σ H Q h=>adO h
end
end D
namespace Q
open PySem PySem.Spec PyProof.Rows L2 D
section
variable {X:Cx}{sc:Scope}{own:List Str}{fr:List Nat}{di:TId}{g:TGd}{tt:TTd}{tk tv:TD}{tg iter kx vx:Expr}{ifs:List Expr}{pos:Pos}
theorem aeH (hc:X.calm=true)(L:mS X sc own fr)(hi:Jd (PId X tg iter di))
  (hg:∀ cl C s H ex pl,Jd (PGd (blk X sc (lcN X own fr) cl C s H ex pl) tg g))(ht:∀ cl C s H ex pl,Jd (sS (blk X sc (lcN X own fr) cl C s H ex pl) ifs tt))(hk:∀ cl C s H ex pl,Jd (PD (blk X sc (lcN X own fr) cl C s H ex pl) kx tk))(hv:∀ cl C s H ex pl,Jd (PD (blk X sc (lcN X own fr) cl C s H ex pl) vx tv))
  (hs:∀ x,foldedSetIterable iter X.env x=pure x:=by intro _; rfl):Jd (PD X (.DictComp kx vx [⟨tg,iter,ifs,0⟩] sc pos) (dDC di g tt tk tv own.length fr)) :=
 ⟨D.aeh hc L hi.h (λ cl C s H ex pl=>(hg cl C s H ex pl).h) (λ cl C s H ex pl=>(ht cl C s H ex pl).h) (λ cl C s H ex pl=>(hk cl C s H ex pl).h) (λ cl C s H ex pl=>(hv cl C s H ex pl).h) hs⟩
end
end Q
namespace L2
open PySem PySem.Spec PyProof.Rows
section
variable {X:Cx}{sc:Scope}{own:List Str}{fr:List Nat}{g:TG}{tt:TT}{tk tv:TE}{kx vx tg iter:Expr}{ifs:List Expr}{pos:Pos}
end
end L2
namespace D
open PySem PySem.Spec PyProof.Rows L2
section
variable {X:Cx}{sc:Scope}{own:List Str}{fr:List Nat}{di:TId}{g:TGd}{tt:TTd}{tk tv:TD}{tg iter kx vx:Expr}{ifs:List Expr}{pos:Pos}
end
end D
namespace Q
open PySem PySem.Spec PyProof.Rows L2 D
section
variable {X:Cx}{sc:Scope}{own:List Str}{fr:List Nat}{di:TId}{g:TGd}{tt:TTd}{tk tv:TD}{tg iter kx vx:Expr}{ifs:List Expr}{pos:Pos}
end
end Q
namespace D
open PySem PySem.Spec PyProof.Rows L2
section
variable {X:Cx}{C:Addr}{o value:Expr}{fn:Str}{pos tpos:Pos}{td tv:TD}
def qK (C:Addr)(td tv:TD)(fn:Str)(f:Int->Int->Int)(D:Ed)(τ:DS)(M:MH):Prop:=td τ M λ w M1=>∃ a fs i,w=.m a/\M1 a=some (.ins C fs)/\fs.lookup fn=some (.d (.int i)) /\
 tv τ M1 λ y M2=>∃ j fs',y=.d (.int j)/\M2 a=some (.ins C fs')/\fs'.length < 1000/\D.nx τ (aK M2 a (.ins C (yy fn (.d (.int (f i j))) fs')))
theorem qx {op:Operator}{f:Int->Int->Int}(c:Cls X.K C)(n:cy X.K C fn)(ha:PD X o td)(hv:PD X value tv)(hop:PIp X op (ipI f)):PSd X (.AugAssign (.Attribute o fn tpos) op value pos) (qK C td tv fn f) :=
 tG (wZ (rd:=ipI f) ha hv hop) λ D σ H h=>by
  obtain ⟨τ,M,Dd,A,h,k1,_⟩:=h
  refine ⟨τ,M,_,A,h,λ x H1 w M1 kp1 r1 m1 hq95=>?_⟩
  obtain ⟨a,fs,i,ew,hm,hl,q1⟩:=hq95
  subst ew
  obtain ⟨dx,l,e,pr⟩:=m1 _ _ hm
  have g:=dA fn pr
  rw [hl] at g
  obtain ⟨b,eb,rb⟩:=OR.some_of g
  simp only [az,ay] at rb
  subst rb
  refine ⟨a,C,dx,l,_,r1,e,c,n,eb,τ,M1,_,A.go kp1 m1,q1,λ y H2 wy M2 kp2 r2 m2 hq96=>?_⟩
  obtain ⟨j,fs',ey,hm2,hl2,q2⟩:=hq96
  subst ey
  simp only [az,ay] at r2
  subst r2
  obtain ⟨dx2,l2,e2,pr2⟩:=m2 _ _ hm2
  refine ⟨i,j,rfl,rfl,dx2,l2,e2,by rw [<- wj pr2]; exact hl2,?_⟩
  have kp4:Kp H2 (upd H2 a (.ins C dx2 (kR fn (.int (f i j)) l2))):=Kp.set e2 (λ _ z=>nomatch z) (λ _ _ z=>nomatch z)
  refine k1 _ _ _ _ ((kp1.trans kp2).trans kp4) (A.go ((kp1.trans kp2).trans kp4) (m2.put (mo:=.ins C (yy fn (.d (.int (f i j))) fs')) kp4 ⟨dx2,_,au,?_⟩)) q2
  exact yr.keep kp4 (xN fn (w:=.d (.int (f i j))) (by simp [az,ay]) pr2)
end
end D
namespace Q
open PySem PySem.Spec PyProof.Rows L2 D
section
variable {X:Cx}{C:Addr}{o value:Expr}{fn:Str}{pos tpos:Pos}{td tv:TD}
theorem uA {op:Operator}{f:Int->Int->Int}(c:Cls X.K C)(n:cy X.K C fn)(ha:Jd (PD X o td))(hv:Jd (PD X value tv))(hop:PIp X op (ipI f)):Jd (PSd X (.AugAssign (.Attribute o fn tpos) op value pos) (qK C td tv fn f)):=⟨D.qx c n ha.h hv.h hop⟩
end
end Q
namespace D
open PySem PySem.Spec PyProof.Rows L2
section
variable {X:Cx}{tg o:Expr}{apos cpos:Pos}{td:TE}
end
section
variable {X:Cx}{K:PySem.W.Frag}{tg o:Expr}{apos cpos:Pos}{td:TD}
end
end D
namespace Q
open PySem PySem.Spec PyProof.Rows L2 D
section
variable {X:Cx}{tg o:Expr}{apos cpos:Pos}{td:TD}
end
end Q
namespace D
open PySem PySem.Spec PyProof.Rows L2
section
variable {X:Cx}{K:PySem.W.Frag}
end
end D
namespace D
open PySem PySem.Spec PyProof.Rows L2
section
variable {X:Cx}{o:Expr}{to:TE}{apos cpos p pos:Pos}
end
section
variable {X:Cx}{o:Expr}{td:TD}{apos cpos p pos:Pos}
namespace Q
end Q
end
end D
namespace PySem
namespace Dp
section
variable {prog:Program}{w:World}{A:Around}{E:Value->Shared->Prop}{s:Shared}
variable {K:Type}[DecidableEq K]{knd:KeyKind prog w K}
end
end Dp
end PySem
namespace D
open PySem PySem.Spec PyProof.Rows L2
section
variable {X:Cx}{K:PySem.W.Frag}
end
end D
namespace Stc
open PySem PySem.Spec PyProof.Rows L2 D Rc
def ag6:List Int->List Int->Prop
 | _,[]=>True
 | rs,d :: ds=>∃ T U:List Int,(T++U).Perm rs/\(T.length:Int)=d/\(∀ t∈T,0 < t)/\ag6 (T.map (λ m=>m - 1)++U) ds
end Stc
namespace D
open PySem PySem.Spec PyProof.Rows L2
section
variable {X:Cx}{K:PySem.W.Frag}
def agd:V->V->V->Hp->(Hp->Prop)->Prop:=λ o i v H Q=>∃ a H',o=.ref a/\afv H a i v H'/\Q H'
theorem set_dict (hu:X.A.units+1 < cLine):afi X agd:=by
 intro pins s σ H o i v ov iv u Q I ro ri rv h
 obtain ⟨a,H',rfl,g,q⟩:=h
 obtain rfl:ov=Value.ref a:=ro
 exact oS hu I g ri rv λ s4 I4=>⟨H',I4,q⟩
end
namespace Q
section
variable {X:Cx}{pos:Pos}
end
end Q
end D
namespace S
open PySem PySem.W PyProof.Rows
section
variable {N:Nat}
def PR (N:Nat)(p:Array Nat):Prop:=p.Perm (List.toArray (List.range N))
end
end S
namespace D
open PySem PySem.Spec PyProof.Rows L2 S
section
variable {X:Cx}{K:PySem.W.Frag}
end
end D
namespace D
open PySem PySem.Spec PyProof.Rows L2
def Tw (H H':Hp):Prop:=Kp H H'/\∀ b vs,H b=some (.lst vs)->H' b=some (.lst vs)\/∃ o,H' b=some (.frz o (.lst vs))
section
variable {X:Cx}{pins:List (Addr×Obj)}{σ:St}{s:Shared}
end
end D
namespace D
open PySem PySem.Spec PyProof.Rows L2
section
variable {X:Cx}{pins:List (Addr×Obj)}{σ:St}{H:Hp}{s:Shared}
end
section
variable {X:Cx}
end
def ae9 (M:MH):Nat->W->PyData->Prop
 | 0,w,d=>w=.d d
 | n+1,w,d=>w=.d d\/(∃ a ws ds,w=.m a/\M a=some (.lst ws)/\d=.list ds/\Paired (ae9 M n) ws ds)\/∃ a ws ds,w=.m a/\M a=some (.tup ws)/\d=.tuple ds/\Paired (ae9 M n) ws ds
theorem ae9.d {M:MH}{x:PyData}:∀ {n:Nat},ae9 M n (.d x) x
 | 0=>rfl
 | _+1=>.inl rfl
section
variable {X:Cx}{K:PySem.W.Frag}
end
end D
namespace D
open PySem PySem.Spec PyProof.Rows L2
section
variable {X:Cx}{pins:List (Addr×Obj)}{σ:St}{H H0:Hp}{s s0:Shared}
theorem sL {a:Addr}{l:List V}(I:Inv X pins σ H s)(h:H a=some (.lst l)):(∀ xs,X.H₀ a≠some (.tup xs))/\(∀ o v,X.H₀ a≠some (.frz o v))/\∀ ps,X.H₀ a≠some (.tbl ps):=by
 refine ⟨λ xs e=>?_,λ o v e=>?_,λ ps e=>?_⟩
 ·have:=I.base.tups a xs e; rw [h] at this; cases this
 ·have:=I.base.frzs a o v e; rw [h] at this; cases this
 ·obtain ⟨m,this⟩:=I.base.tbls a ps e; rw [h] at this; cases this
theorem Inv.aaa {a:Addr}{l:List V}(I:Inv X pins σ H s)(h:H a=some (.lst l)):∃ o,Inv X pins σ (upd H a (.frz o (.frz o (.lst l)))) s:=by
 have f:Fz (.lst l):=trivial
 obtain ⟨o,ho⟩:=(I.hok a _ h).obj f
 obtain ⟨b1,b2,b3⟩:=sL I h
 exact ⟨o,Inv.swap I h (λ _ z=>nomatch z) (λ _ z=>nomatch z) b1 b2 b3 ⟨ho,ho,(I.hok a _ h).agu f⟩⟩
theorem Inv.pE {σ0:St}{a:Addr}{o:Obj}{l:List V}(I0:Inv X pins σ0 H0 s0)(h0:H0 a=some (.lst l))(I:Inv X pins σ H s)(h:H a=some (.frz o (.frz o (.lst l)))):Inv X pins σ (upd H a (.lst l)) s:=by
 have f:Fz (.lst l):=trivial
 obtain ⟨b1,b2,b3⟩:=sL I0 h0
 exact Inv.swap I h (λ _ z=>nomatch z) (λ _ z=>nomatch z) b1 b2 b3 ((I.hok a _ h).2.2.agu f)
end
def acr (t:TE):TE:=λ σ H Q=>∃ a l,H a=some (.lst l)/\∀ o,t σ (upd H a (.frz o (.frz o (.lst l)))) λ v H'=>H' a=some (.frz o (.frz o (.lst l)))/\Q v (upd H' a (.lst l))
theorem ym {X:Cx}{e:Expr}{t:TE}(h:PE X e t):PE X e (acr t):=by
 intro pins s σ H Q I ⟨a,l,ha,q⟩
 obtain ⟨o,I1⟩:=Inv.aaa I ha
 exact thn (h pins s σ _ _ I1 (q o)) λ v s1 ⟨x,H',I2,r,e,q2⟩=>⟨x,_,Inv.pE I ha I2 e,r,q2⟩
def aa1 (t:TS):TS:=λ D σ H=>∃ a l,H a=some (.lst l)/\∀ o,t
 {nx:=λ σ' H'=>H' a=some (.frz o (.frz o (.lst l)))/\D.nx σ' (upd H' a (.lst l)),rt:=λ v H'=>H' a=some (.frz o (.frz o (.lst l)))/\D.rt v (upd H' a (.lst l)),
  bk:=λ σ' H'=>H' a=some (.frz o (.frz o (.lst l)))/\D.bk σ' (upd H' a (.lst l)),ct:=λ σ' H'=>H' a=some (.frz o (.frz o (.lst l)))/\D.ct σ' (upd H' a (.lst l)) } σ (upd H a (.frz o (.frz o (.lst l))))
theorem xM {X:Cx}{st:Stmt}{t:TS}(h:PS X st t):PS X st (aa1 t):=by
 intro pins s σ H D I ⟨a,l,ha,q⟩
 obtain ⟨o,I1⟩:=Inv.aaa I ha
 refine thn (h pins s σ _ _ I1 (q o)) λ f s1 hf=>?_
 cases f with
 | next=>obtain ⟨σ',H',I2,e,q2⟩:=hf; exact ⟨σ',_,Inv.pE I ha I2 e,q2⟩
 | brk=>obtain ⟨σ',H',I2,e,q2⟩:=hf; exact ⟨σ',_,Inv.pE I ha I2 e,q2⟩
 | cont=>obtain ⟨σ',H',I2,e,q2⟩:=hf; exact ⟨σ',_,Inv.pE I ha I2 e,q2⟩
 | ret u=>obtain ⟨v,σ',H',I2,r,e,q2⟩:=hf; exact ⟨v,σ',_,Inv.pE I ha I2 e,r,q2⟩
section
variable {K:PySem.W.Frag}{H:Hp}{a:Addr}{o:Obj}{l:List V}
theorem Kp.bP (h:H a=some (.frz o (.frz o (.lst l)))):(∀ b xs,H b=some (.tup xs)->upd H a (.lst l) b=some (.tup xs))/\(∀ b ob ys,H b=some (.frz ob (.lst ys))->upd H a (.lst l) b=some (.frz ob (.lst ys)))/\∀ b ob ys,H b=some (.frz ob (.dK ys))->upd H a (.lst l) b=some (.frz ob (.dK ys)):=by
 refine ⟨λ b xs e=>?_,λ b ob ys e=>?_,λ b ob ys e=>?_⟩ <;>
 ·rw [ao (λ z=>by rw [z,h] at e; cases e)]; exact e
theorem SqT.bP {b:Addr}{vs:List V}(h:H a=some (.frz o (.frz o (.lst l))))(r:SqT K H b vs):SqT K (upd H a (.lst l)) b vs:=by
 rcases r with (r | ⟨ob,r⟩) | r
 ·exact .inl (.inl ((Kp.bP h).1 _ _ r))
 ·refine .inl (.inr ⟨ob,?_⟩)
  rw [ao (λ z=>by rw [z,h] at r; cases r)]; exact r
 ·exact .inr r
theorem SqF.bP {b:Addr}{vs:List V}(h:H a=some (.frz o (.frz o (.lst l))))(r:SqF K H b vs):SqF K (upd H a (.lst l)) b vs:=by
 rcases r with ⟨ob,r⟩ | r
 ·exact .inl ⟨ob,(Kp.bP h).2.1 _ _ _ r⟩
 ·exact .inr r
mutual
theorem ay.bP (h:H a=some (.frz o (.frz o (.lst l)))):∀ {d:PyData} {v:V},ay K H d v->ay K (upd H a (.lst l)) d v
 | .none,v,r=>by simp only [ay] at r ⊢; exact r
 | .bool b,v,r=>by simp only [ay] at r ⊢; exact r
 | .int i,v,r=>by simp only [ay] at r ⊢; exact r
 | .str x,v,r=>by simp only [ay] at r ⊢; exact r
 | .list ds,v,r=>by
  simp only [ay] at r ⊢
  obtain ⟨b,vs,e,q,r⟩:=r
  exact ⟨b,vs,e,SqF.bP h q,bj.bP h r⟩
 | .tuple ds,v,r=>by
  simp only [ay] at r ⊢
  obtain ⟨b,vs,e,q,r⟩:=r
  exact ⟨b,vs,e,SqT.bP h q,bj.bP h r⟩
 | .dict kvs,v,r=>by
  simp only [ay] at r ⊢
  obtain ⟨b,ob,m,e,q,r⟩:=r
  exact ⟨b,ob,m,e,(Kp.bP h).2.2 _ _ _ q,nv.bP h r⟩
theorem bj.bP (h:H a=some (.frz o (.frz o (.lst l)))):∀ {ds:List PyData} {vs:List V},bj K H ds vs->bj K (upd H a (.lst l)) ds vs
 | [],vs,r=>by simp only [bj] at r ⊢; exact r
 | d :: ds,vs,r=>by
  simp only [bj] at r ⊢
  obtain ⟨v,q,e,h1,h2⟩:=r
  exact ⟨v,q,e,ay.bP h h1,bj.bP h h2⟩
theorem nv.bP (h:H a=some (.frz o (.frz o (.lst l)))):∀ {ds:List (PyData×PyData)} {m:List (Key×V)},nv K H ds m->nv K (upd H a (.lst l)) ds m
 | [],m,r=>by simp only [nv] at r ⊢; exact r
 | (key,d) :: ds,m,r=>by
  simp only [nv] at r ⊢
  obtain ⟨k',v,q,e,ek,h1,h2⟩:=r
  exact ⟨k',v,q,e,ek,ay.bP h h1,nv.bP h h2⟩
end
theorem az.bP (h:H a=some (.frz o (.frz o (.lst l)))):∀ {w:W} {v:V},az K H w v->az K (upd H a (.lst l)) w v
 | .d _,_,r=>ay.bP h r
 | .m _,_,r=>r
 | .t _,_,r=>r
theorem cm.bP {M:MH}{ws0:List W}(h:H a=some (.frz o (.frz o (.lst l))))(m:cm K H M)(e:M a=some (.flst ws0)):cm K (upd H a (.lst l)) (aK M a (.lst ws0)):=λ b mo q=>by
 by_cases hb:b=a
 ·subst hb
  rw [aa] at q
  cases q
  obtain ⟨o',l',e',pr⟩:=m _ _ e
  rw [h] at e'
  cases e'
  exact ⟨l,au,Paired.je pr λ _ _ z=>az.bP h z⟩
 ·rw [ah hb] at q
  have r:=m b mo q
  cases mo with
  | lst ws=>obtain ⟨vs,e,r⟩:=r; exact ⟨vs,by rw [ao hb]; exact e,Paired.je r λ _ _ z=>az.bP h z⟩
  | dic kvs=>obtain ⟨l,e,r⟩:=r; exact ⟨l,by rw [ao hb]; exact e,Paired.je r λ p q z=>⟨z.1,az.bP h z.2⟩⟩
  | dct kvs=>obtain ⟨l,e,r⟩:=r; exact ⟨l,by rw [ao hb]; exact e,Paired.je r λ p q z=>⟨z.1,az.bP h z.2⟩⟩
  | fdic kvs=>obtain ⟨o,l,e,r⟩:=r; exact ⟨o,l,by rw [ao hb]; exact e,Paired.je r λ p q z=>⟨z.1,az.bP h z.2⟩⟩
  | ins C fs=>obtain ⟨dx,l,e,r⟩:=r; exact ⟨dx,l,by rw [ao hb]; exact e,Paired.je r λ p q z=>⟨z.1,az.bP h z.2⟩⟩
  | tup ws=>obtain ⟨vs,e,r⟩:=r; exact ⟨vs,by rw [ao hb]; exact e,Paired.je r λ _ _ z=>az.bP h z⟩
  | flst ws=>obtain ⟨o,vs,e,r⟩:=r; exact ⟨o,vs,by rw [ao hb]; exact e,Paired.je r λ _ _ z=>az.bP h z⟩
  | exc C fs =>
   obtain ⟨φ,dct,e,p,r⟩:=r
   refine ⟨φ,dct,by rw [ao hb]; exact e,p,?_⟩
   rcases r with r | ⟨dx,o',l',e1,e2,r⟩
   ·exact .inl r
   ·exact .inr ⟨dx,o',l',e1,by rw [ao (λ z=>by rw [z,h] at e2; cases e2)]; exact e2,Paired.je r λ p q z=>⟨z.1,az.bP h z.2⟩⟩
  | code q pos =>
   obtain ⟨ps,e,ht,hc⟩:=r
   refine ⟨ps,by rw [ao hb]; exact e,ht,?_⟩
   rcases hc with hc | ⟨c,o',vs,t,e1,e2,e3⟩
   ·exact .inl hc
   ·exact .inr ⟨c,o',vs,t,e1,by rw [ao (λ z=>by rw [z,h] at e2; cases e2)]; exact e2,e3⟩
theorem Abs.bP {σ:St}{τ:DS}{M:MH}{ws0:List W}(h:H a=some (.frz o (.frz o (.lst l))))(A:Abs K H σ τ M)(e:M a=some (.flst ws0)):Abs K (upd H a (.lst l)) σ τ (aK M a (.lst ws0)) :=
 ⟨A.len,λ i w q=>let ⟨v,q1,r⟩:=A.val i w q; ⟨v,q1,az.bP h r⟩,cm.bP h A.mem e⟩
end
def rJ (t:TD)(τ:DS)(M:MH)(Q:QD):Prop:=∃ a ws,M a=some (.lst ws)/\t τ (aK M a (.flst ws)) λ v M'=>M' a=some (.flst ws)/\Q v (aK M' a (.lst ws))
theorem g7 {H H':Hp}{a:Addr}{o:Obj}{l:List V}(e:H a=some (.lst l))(kp':Kp (upd H a (.frz o (.frz o (.lst l)))) H'):Kp H (upd H' a (.lst l)):=⟨λ b xs z=>by
  have hb:b≠a:=λ y=>by rw [y,e] at z; cases z
  rw [ao hb]
  exact kp'.tup b xs (by rw [ao hb]; exact z),λ b ob u z=>by
  have hb:b≠a:=λ y=>by rw [y,e] at z; cases z
  rw [ao hb]
  exact kp'.frz b ob u (by rw [ao hb]; exact z)⟩
theorem uh {X:Cx}{e:Expr}{t:TD}(h:PD X e t):PD X e (rJ t):=eO (ym h) λ σ H Q hq97=>by
 obtain ⟨τ,M,Qd,A,⟨a,ws,hm,q⟩,k⟩:=hq97
 obtain ⟨l,e,pr⟩:=A.mem _ _ hm
 refine ⟨a,l,e,λ o=>?_⟩
 have kp:Kp H (upd H a (.frz o (.frz o (.lst l)))):=Kp.set e (λ _ z=>nomatch z) (λ _ _ z=>nomatch z)
 have m1:cm X.K (upd H a (.frz o (.frz o (.lst l)))) (aK M a (.flst ws)):=A.mem.put (mo:=.flst ws) kp ⟨o,l,au,aJ.keep kp pr⟩
 refine ⟨τ,_,_,A.go kp m1,q,λ v H' w M' kp' r' m' hq98=>?_⟩
 obtain ⟨h1,q1⟩:=hq98
 have e':=kp'.frz a o _ au
 exact ⟨e',k _ _ w _ (g7 e kp') (az.bP e' r') (cm.bP e' m' h1) q1⟩
def m8 (t:TSd)(D:Ed)(τ:DS)(M:MH):Prop:=∃ a ws,M a=some (.lst ws)/\t
 {nx:=λ τ' M'=>M' a=some (.flst ws)/\D.nx τ' (aK M' a (.lst ws)),rt:=λ w M'=>M' a=some (.flst ws)/\D.rt w (aK M' a (.lst ws)),
  bk:=λ τ' M'=>M' a=some (.flst ws)/\D.bk τ' (aK M' a (.lst ws)),ct:=λ τ' M'=>M' a=some (.flst ws)/\D.ct τ' (aK M' a (.lst ws)) } τ (aK M a (.flst ws))
theorem qI {X:Cx}{st:Stmt}{t:TSd}(h:PSd X st t):PSd X st (m8 t):=tG (xM h) λ D σ H hq99=>by
 obtain ⟨τ,M,Dd,A,⟨a,ws,hm,q⟩,k1,k2,k3,k4⟩:=hq99
 obtain ⟨l,e,pr⟩:=A.mem _ _ hm
 refine ⟨a,l,e,λ o=>?_⟩
 have kp:Kp H (upd H a (.frz o (.frz o (.lst l)))):=Kp.set e (λ _ z=>nomatch z) (λ _ _ z=>nomatch z)
 have m1:cm X.K (upd H a (.frz o (.frz o (.lst l)))) (aK M a (.flst ws)):=A.mem.put (mo:=.flst ws) kp ⟨o,l,au,aJ.keep kp pr⟩
 refine ⟨τ,_,_,A.go kp m1,q,?_,?_,?_,?_⟩
 ·rintro σ' H' τ' M' kp' A' ⟨h1,q1⟩
  have e':=kp'.frz a o _ au
  exact ⟨e',k1 _ _ _ _ (g7 e kp') (Abs.bP e' A' h1) q1⟩
 ·rintro v H' w M' kp' r' m' ⟨h1,q1⟩
  have e':=kp'.frz a o _ au
  exact ⟨e',k2 _ _ _ _ (g7 e kp') (az.bP e' r') (cm.bP e' m' h1) q1⟩
 ·rintro σ' H' τ' M' kp' A' ⟨h1,q1⟩
  have e':=kp'.frz a o _ au
  exact ⟨e',k3 _ _ _ _ (g7 e kp') (Abs.bP e' A' h1) q1⟩
 ·rintro σ' H' τ' M' kp' A' ⟨h1,q1⟩
  have e':=kp'.frz a o _ au
  exact ⟨e',k4 _ _ _ _ (g7 e kp') (Abs.bP e' A' h1) q1⟩
abbrev tL (o:Obj)(l:List V):HO:=.frz o (.frz o (.lst l))
theorem jE {P:Program}{w:World}{H:Hp}{h:Heap}{a:Addr}{o:Obj}{l:List V}(ok:HOk P w H h)(e:H a=some (tL o l)):∃ its:List Value,Vals l its/\h.IsList a its.toArray:=by
 obtain ⟨ho,_,z,its,n,r,h1⟩:=ok a _ e
 exact ⟨its,r,⟨_,h1,rfl,n,rfl⟩⟩
def Itf (a:Addr)(o:Obj)(l:List V):It :=
 ⟨λ i H=>H a=some (tL o l)/\i < l.length,λ i H x H'=>H'=H/\l[i]? = some x,λ i H=>H a=some (tL o l)/\l.length<=i⟩
theorem uG {P:Program}{w:World}{K:PySem.W.Frag}{tg:Expr}(a it:Addr)(o:Obj)(l:List V):Turn P w K tg (Itf a o l) [it] it (λ i h=>h.IsListIter it a i) where
 mem:=by simp
 obj:=λ i h st b hb=>by
  have e:b=it:=by simpa using hb
  subst e
  obtain ⟨o,e,c,d⟩:=st
  exact ⟨o,e,λ v z=>by rw [d] at z; cases z⟩
 keep:=λ i h h' st k=>st.at λ o e=>k it (by simp) o e
 item:=by
  intro X hP hw hK hc i pins s σ H E I hf st ⟨hg,hi⟩
  subst hP hw hK
  obtain ⟨its,rv,p⟩:=jE I.hok hg
  obtain ⟨u,hu,ru⟩:=rv.get (List.getElem?_eq_getElem hi)
  obtain ⟨f0,f1,f2,f3,f4,f5⟩:=hf it (by simp)
  refine wpAny_pyNext_list_item st p (x:=u) (by simpa using hu) λ h' st' sb=>?_
  have I1:Inv X pins σ H { s with heap:=h' }:=I.turned (t':=s.toks) (λ b o hb e=>(sb.2 b hb).trans e) f0 f1 f3 f4 f5
  obtain ⟨o,e,c,d⟩:=id st'
  exact ⟨u,rfl,xu (s:={ s with heap:=h' }) e c d (by decide) ⟨_,H,I1,ru,⟨rfl,List.getElem?_eq_getElem hi⟩,st',λ b hb=>(hf b hb).1⟩⟩
 done:=by
  intro X hP hw hK hc i pins s σ H E I hf st ⟨hg,hi⟩
  subst hP hw hK
  obtain ⟨its,rv,p⟩:=jE I.hok hg
  obtain ⟨f0,f1,f2,f3,f4,f5⟩:=hf it (by simp)
  have hl:=rv.length
  exact wpAny_pyNext_list_end (I.ok.hd hc) st p (by simp; omega) λ h' eb=>⟨rfl,I.turned (t':=s.toks) (λ b o hb e=>eb b o hb e) f0 f1 f3 f4 f5⟩
 self:=λ _ _ _ _ _ st h=>wpAny_pyIter_listiter st h
section
variable {X:Cx}{K:PySem.W.Frag}{tg o:Expr}
def adk (td:TE):TI:=λ σ H R=>td σ H λ x H1=>∃ a o l,x=.ref a/\H1 a=some (tL o l)/\R (Itf a o l) H1
theorem zr {td:TE}(ho:PE X o td):PI X tg o (adk td):=by
 intro pins s σ H R I h
 refine thn (ho pins s σ H _ I h) λ v s1 hq100=>?_
 obtain ⟨x,H1,I1,r1,a,ob,l,ex,hg,q⟩:=hq100
 subst ex
 cases r1
 obtain ⟨its,rv,p⟩:=jE I1.hok hg
 refine wpAny_pyIter_list p ?_
 refine ⟨s1.heap.objs.size,[s1.heap.objs.size],_,_,H1,rfl,I1.kept (t':=s1.toks) λ b o e=>Heap.get?_push_of_some _ e,uG a _ ob l,⟨_,Heap.get?_push_size _ rfl,rfl,rfl⟩,λ b hb=>?_,q⟩
 have e:b=s1.heap.objs.size:=by simpa using hb
 subst e
 exact I1.sy (Nat.le_refl _) (I1.hok.fresh (Nat.le_refl _))
def nC (td:TD)(τ:DS)(M:MH)(R:List W->MH->Prop):Prop:=td τ M λ w M1=>∃ a ws,w=.m a/\M1 a=some (.flst ws)/\R ws M1
theorem qW {td:TD}(ho:PD X o td):PId X tg o (nC td):=afh (zr ho) λ σ H R hq101=>by
 obtain ⟨τ,M,Rd,A,h,k⟩:=hq101
 refine ⟨τ,M,_,A,h,λ v H1 w M1 kp r m hq102=>?_⟩
 obtain ⟨a,ws,ew,hm,q⟩:=hq102
 subst ew
 obtain ⟨ob,l,e,pr⟩:=m _ _ hm
 refine ⟨a,ob,l,r,e,k _ H1 _ M1 kp m (λ H2 kp2 i=>?_) q⟩
 have hl:=pr.length
 have e2:=kp2.frz a ob _ e
 refine ⟨λ hi=>⟨e2,by omega⟩,λ hi=>⟨e2,by omega⟩,λ x H' hi hq103=>?_⟩
 obtain ⟨eH,ex⟩:=hq103
 subst eH
 have hi2:i < ws.length:=hi
 obtain ⟨x',ex',rx⟩:=aJ.get (aJ.keep kp2 pr) (List.getElem?_eq_getElem hi2)
 rw [ex'] at ex
 cases ex
 exact ⟨Kp.refl _,λ M m=>m,ws[i],List.getElem?_eq_getElem hi2,rx⟩
end
end D
namespace D
open PySem PySem.Spec PyProof.Rows L2
section
variable {X:Cx}{o:Expr}{td:TD}{apos cpos:Pos}
end
namespace Q
section
variable {X:Cx}{pos:Pos}
theorem yc {e:Expr}{t:TD}(h:Jd (PD X e t)):Jd (PD X e (rJ t)):=⟨D.uh h.h⟩
theorem uu {st:Stmt}{t:TSd}(h:Jd (PSd X st t)):Jd (PSd X st (m8 t)):=⟨D.qI h.h⟩
theorem lq {tg o:Expr}{td:TD}(ho:Jd (PD X o td)):Jd (PId X tg o (nC td)):=⟨D.qW ho.h⟩
end
end Q
end D
namespace D
open PySem PySem.Spec PyProof.Rows L2
section
variable {X:Cx}{tg iter elt:Expr}{pos:Pos}{sc:Scope}{own:List Str}{fr:List Nat}{di:TId}{g:TGd}{tt:TTd}{te:TD}{ifs:List Expr}
theorem rG {i:Nat}{x:Str}{pos' spos:Pos}(hN:X.N.Nodup)(hi':X.N[i]? = some x)(hx:Loc X.env.scope x)(hc:X.calm=true)(L:mS X sc own fr)(hi:PId X tg iter di)
  (hg:∀ cl C s H ex pl,PGd (blk X sc (lcN X own fr) cl C s H ex pl) tg g)(ht:∀ cl C s H ex pl,sS (blk X sc (lcN X own fr) cl C s H ex pl) ifs tt)(he:∀ cl C s H ex pl,PD (blk X sc (lcN X own fr) cl C s H ex pl) elt te)
  (hsw:swapsWith (.ListComp elt [⟨tg,iter,ifs,0⟩] sc pos) (some (.Name x pos')) spos.line X.env=pure true:=by rfl)
  (hs:∀ x,foldedSetIterable iter X.env x=pure x:=by intro _; rfl)(hf:X.fn x=true\/X.env.scope.names.lookup x=some .local:=by first | exact .inl rfl | exact .inr rfl | assumption) :
  PSd X (.Assign [.Name x pos'] (.ListComp elt [⟨tg,iter,ifs,0⟩] sc pos) spos) (cA (u6 di g tt te own.length fr) (gN i)):=tG (sG hN hi' hx hc L hi hg ht he hsw hs hf) λ D σ H hq104=>by
 obtain ⟨τ,M,Dd,A,h,k1,_⟩:=hq104
 have z:up X.K (u6 di g tt te own.length fr) σ H (λ v H'=>D.nx (σ.set i (some v)) H'):=⟨τ,M,_,A,h,λ v H1 w M1 kp r m q=>k1 _ H1 _ M1 kp ((A.go kp m).set i r) q⟩
 exact xP z
end
namespace Q
section
variable {X:Cx}{tg iter elt:Expr}{pos:Pos}{sc:Scope}{own:List Str}{fr:List Nat}{di:TId}{g:TGd}{tt:TTd}{te:TD}{ifs:List Expr}
theorem la {i:Nat}{x:Str}{pos' spos:Pos}(hN:X.N.Nodup)(hi':X.N[i]? = some x)(hx:Loc X.env.scope x)(hc:X.calm=true)(L:mS X sc own fr)(hi:Jd (PId X tg iter di))
  (hg:∀ cl C s H ex pl,Jd (PGd (blk X sc (lcN X own fr) cl C s H ex pl) tg g))(ht:∀ cl C s H ex pl,Jd (sS (blk X sc (lcN X own fr) cl C s H ex pl) ifs tt))(he:∀ cl C s H ex pl,Jd (PD (blk X sc (lcN X own fr) cl C s H ex pl) elt te))
  (hsw:swapsWith (.ListComp elt [⟨tg,iter,ifs,0⟩] sc pos) (some (.Name x pos')) spos.line X.env=pure true:=by rfl)
  (hs:∀ x,foldedSetIterable iter X.env x=pure x:=by intro _; rfl)(hf:X.fn x=true\/X.env.scope.names.lookup x=some .local:=by first | exact .inl rfl | exact .inr rfl | assumption) :
  Jd (PSd X (.Assign [.Name x pos'] (.ListComp elt [⟨tg,iter,ifs,0⟩] sc pos) spos) (cA (u6 di g tt te own.length fr) (gN i))):=⟨D.rG hN hi' hx hc L hi.h (λ cl C s H ex pl=>(hg cl C s H ex pl).h) (λ cl C s H ex pl=>(ht cl C s H ex pl).h) (λ cl C s H ex pl=>(he cl C s H ex pl).h) hsw hs hf⟩
end
end Q
end D
namespace D
open PySem
theorem af9 {us:List Value}(h:us.length=0):us=[]:=by
 exact List.eq_nil_of_length_eq_zero h
theorem gu {us:List Value}(h:us.length=1):∃ a1:Value,us=[a1]:=by
 cases us with
 | nil=>simp at h
 | cons a r =>
  have e:r=[]:=af9 (by simpa using h)
  subst e
  exact ⟨a,rfl⟩
theorem oV {us:List Value}(h:us.length=2):∃ a1 a2:Value,us=[a1,a2]:=by
 cases us with
 | nil=>simp at h
 | cons a r =>
  obtain ⟨b1,e⟩:=gu (us:=r) (by simpa using h)
  subst e
  exact ⟨a,b1,rfl⟩
theorem uD {us:List Value}(h:us.length=3):∃ a1 a2 a3:Value,us=[a1,a2,a3]:=by
 cases us with
 | nil=>simp at h
 | cons a r =>
  obtain ⟨b1,b2,e⟩:=oV (us:=r) (by simpa using h)
  subst e
  exact ⟨a,b1,b2,rfl⟩
theorem adK {us:List Value}(h:us.length=4):∃ a1 a2 a3 a4:Value,us=[a1,a2,a3,a4]:=by
 cases us with
 | nil=>simp at h
 | cons a r =>
  obtain ⟨b1,b2,b3,e⟩:=uD (us:=r) (by simpa using h)
  subst e
  exact ⟨a,b1,b2,b3,rfl⟩
end D
namespace D
open PySem PySem.Spec PyProof.Rows L2
section
variable {X:Cx}{K:PySem.W.Frag}
variable {o e f:Expr}{td te tf:TD}{apos cpos:Pos}
end
namespace Q
end Q
end D
namespace D
open PySem PySem.Spec PyProof.Rows L2
section
variable {X:Cx}{K:PySem.W.Frag}
end
section
variable {X:Cx}{K:PySem.W.Frag}
end
namespace Q
end Q
end D
namespace D
open PySem PySem.Spec PyProof.Rows L2
section
variable {K:PySem.W.Frag}
variable {X:Cx}{sc:Scope}{own:List Str}{fr:List Nat}{di:TId}{g:TGd}{tt:TTd}{te:TD}{tg iter elt:Expr}{ifs:List Expr}{pos:Pos}
end
section
variable {X:Cx}{tg iter elt:Expr}{pos:Pos}{sc:Scope}{own:List Str}{fr:List Nat}{di:TId}{g:TGd}{tt:TTd}{te:TD}{ifs:List Expr}
end
namespace Q
section
variable {X:Cx}{tg iter elt:Expr}{pos:Pos}{sc:Scope}{own:List Str}{fr:List Nat}{di:TId}{g:TGd}{tt:TTd}{te:TD}{ifs:List Expr}
variable {o:Expr}{td:TD}{apos cpos kpos kp:Pos}{j:Nat}
end
end Q
end D
namespace XO
open PySem PySem.Spec PyProof.Rows PySem.W Builtin.ObjectAttr
def rQ:List Value:=[.type "ValueError",.type "Exception",.type "BaseException",.type "object"]
def du:List Value->Bool
 | .ref _ :: r=>du r
 | l=>l == rQ
theorem ny {l:List Value}(h:du l=true):l.isEmpty=false:=by
 cases l with
 | nil=>exact absurd h (by decide)
 | cons _ _=>rfl
theorem k9 {l:List Value}(h:du l=true):(∃ a r,l=.ref a :: r/\du r=true)\/l=rQ:=by
 cases l with
 | nil=>exact absurd h (by decide)
 | cons v r =>
  cases v <;> first | exact .inl ⟨_,_,rfl,h⟩ | exact .inr (eq_of_beq (by simpa only [du] using h))
theorem nU (T:String)(hT:rQ.contains (.type T)=true):∀ {l:List Value},du l=true->l.contains (.type T)=true:=by
 intro l
 induction l with
 | nil=>intro h; exact absurd h (by decide)
 | cons v r ih =>
  intro h
  rcases k9 h with ⟨a,r',e,q⟩ | e
  ·cases e
   rw [List.contains_cons,ih q,Bool.or_true]
  ·rw [e]; exact hT
theorem qO (self:Value):∀ {l:List Value},du l=true->refuseLoop self "__setattr__" l=pure ():=by
 intro l
 induction l with
 | nil=>intro h; exact absurd h (by decide)
 | cons v r ih =>
  intro h
  rcases k9 h with ⟨a,r',e,q⟩ | e
  ·cases e
   rw [refuseLoop_ref]; exact ih q
  ·rw [e]; exact PySem.F.store_ValueError.passes self
def aaX (K:Frag)(C:Addr):Bool:=(clsIn K C).any λ cd=>cd.hasDict && du cd.mro
theorem fh {K:Frag}{C:Addr}(h:aaX K C=true):∃ cd,clsIn K C=some cd/\cd.hasDict=true/\du cd.mro=true:=by
 obtain ⟨cd,e,q⟩:=any_some h
 simp only [Bool.and_eq_true] at q
 exact ⟨cd,e,q.1,q.2⟩
section
variable {prog:Program}{w:World}{A:Around}{E:Value->Shared->Prop}{s:Shared}{K:Frag}{x C:Addr}{name:Str}{v:Value}
theorem agF {M:Model}{h:Heap}{ox:Obj}{od:Option Obj}(X:K.In h)(c:aaX K C=true)(I:PySem.W.InstAt h x ox C od){T:String}(hT:rQ.contains (.type T)=true):Looks M h (isInstance (.ref x) (.type T)) true:=by
 obtain ⟨cd,hc,_,hm⟩:=fh c
 refine I.type.andThen (looks_mroIn X ?_)
 unfold mroIn
 rw [hc,Option.bind_some,if_neg (by rw [ny hm]; decide),nU T hT hm]
theorem ahh {R:Result->Shared->Prop}{ox:Obj}{od:Option Obj}{tk:Tok}(X:K.In s.heap)(I:PySem.W.InstAt s.heap x ox C od)(c:aaX K C=true)(na:findIn K (.ref C) name=some none)
  (h:∀ b,wpAny (model prog w) A.in1 (storeInOwnDict (.ref x) (.ref C) (.str name tk) name v b)
   (λ fin s'=>match fin with | .done f=>R (.ok f) s' | .again c'=>c'.quiet=true/\codeAny (model prog w) A c' R s') (λ e s'=>R (.error e) s') s) :
  codeAny (model prog w) A (.call (.builtin "object.__setattr__") ⟨[.ref x,.str name tk,v],[]⟩) R s:=by
 obtain ⟨cd,hc,_,hm⟩:=fh c
 have S:=PySem.F.store_object
 refine codeAny_call_builtin S.slot.plain S.entry (@check_slot (model prog w) _ _ s "object.__setattr__" "object" "__setattr__" (.ref x) [.str name tk,v] [] _ S.kind S.split (agF X c I (by decide)) (S.args (.ref x) (.str name tk) v) ?_)
 rw [osa_eq,refuse_eq]
 have hm':Looks (model prog w) s.heap (mroOf (.ref C)) cd.mro:=(looks_clsIn X hc).andThen .now
 refine wpAny_bind (wpAny_bind (I.type.here (wpAny_bind (hm'.here ?_))))
 rw [qO _ hm]
 refine wpAny_pure ?_
 exact wpAny_bind (I.type.here (wpAny_bind ((looks_findIn X na).here (wpAny_bind (wpAny_pure (h _))))))
theorem agv {Q:Unit->Shared->Prop}{vs:Array Value}{sl:Array (Option Value)}(X:K.In s.heap)(c:aaX K C=true)(sa:findIn K (.ref C) "__setattr__" = some (some (.builtin "object.__setattr__")))
  (na:findIn K (.ref C) name=some none)(hx:s.heap.get? x=some ⟨.ref C,none,.fields vs,sl⟩)
  (h:∀ h' tk dx,s.heap.objs.size<=dx->dx≠x->h'.get? x=some ⟨.ref C,some dx,.fields vs,sl⟩->h'.Ns1 dx (λ y=>if y=name then some v else none)->(∀ b o,b≠x->s.heap.get? b=some o->h'.get? b=some o)->Q () { s with heap:=h',toks:=tk }) :
  wpAny (model prog w) A (setAttr (.ref x) name v) Q E s:=by
 have I:PySem.W.InstAt s.heap x ⟨.ref C,none,.fields vs,sl⟩ C none:=⟨hx,rfl,rfl,True.intro⟩
 refine set_plain X I sa (ahh (s:={ s with toks:=s.toks+1 }) X I c na λ b=>?_)
 obtain ⟨cd,hc,hd,_⟩:=fh c
 refine wpAny_bind (wpAny_pure (wpAny_bind (wpAny_bind (wpAny_loadPart hx (wpAny_bind (PySem.W.Looks.here (s:={ s with toks:=s.toks+1 }) (looks_clsIn X hc) ?_))))))
 rw [hd]
 have lx:x < s.heap.objs.size:=Heap.lt_size hx
 have ne:s.heap.objs.size≠x:=Nat.ne_of_gt lx
 refine wpAny_bind (wpAny_alloc' (wpAny_bind (wpAny_update' (Heap.get?_push_of_some _ hx) (wpAny_pure ?_))))
 have e1:((s.heap.push { cls:=.type "dict",data:=.dict #[] }).update x λ o=>{ o with dict:=some s.heap.objs.size }).get? s.heap.objs.size=some { cls:=.type "dict",data:=.dict #[] } :=
  (Heap.get?_update_ne _ _ _ _ ne).trans (Heap.get?_push_at rfl rfl)
 have e2:((s.heap.push { cls:=.type "dict",data:=.dict #[] }).update x λ o=>{ o with dict:=some s.heap.objs.size }).get? x=some ⟨.ref C,some s.heap.objs.size,.fields vs,sl⟩ :=
  Heap.get?_update_self _ (Heap.get?_push_of_some _ hx) rfl
 have e3:((s.heap.push { cls:=.type "dict",data:=.dict #[] }).update x λ o=>{ o with dict:=some s.heap.objs.size }).Ns s.heap.objs.size (λ _=>none):=⟨_,#[],_,e1,rfl,λ _ z=>absurd z (by simp),λ _=>rfl⟩
 refine wpAny_bind (wpAny_pure (wpAny_bind (wpAny_nsSet1 (Heap.Ns1.of_empty e3) λ h2 n2 sb=>?_)))
 obtain ⟨oD,esD,epD,g1,g2,g3⟩:=n2.count (PySem.Within.cons name v PySem.Within.nil)
 refine wpAny_bind (wpAny_lookBehind g1 (by rw [g2]; exact pastItsLine_dict (Nat.le_trans g3 (by rw [List.length_cons,List.length_nil,sizeLine_eq]; omega))) (wpAny_pure ?_))
 exact h h2 _ _ (Nat.le_refl _) ne ((sb.2 x (Ne.symm ne)).trans e2) n2 λ b o hb z=>(sb.2 b (Nat.ne_of_lt (Heap.lt_size z))).trans ((Heap.get?_update_ne _ _ _ _ hb).trans (Heap.get?_push_of_some _ z))
end
end XO
namespace XO
open PySem PySem.Spec PyProof.Rows PySem.W Builtin.ObjectAttr
section
variable {prog:Program}{w:World}{A:Around}{E:Value->Shared->Prop}{s:Shared}{K:Frag}{x C:Addr}{name:Str}{v:Value}{ox:Obj}{od:Option Obj}
theorem aa0:builtinKind "BaseException.__getattribute__" = some .slot:=by decide +kernel
theorem yJ:splitId "BaseException.__getattribute__" = some ("BaseException", "__getattribute__"):=by decide +kernel
structure XC (K:Frag)(C:Addr):Prop where
 x:aaX K C=true
 sa:findIn K (.ref C) "__setattr__" = some (some (.builtin "object.__setattr__"))
 ga:findIn K (.ref C) "__getattribute__" = some (some (.builtin "BaseException.__getattribute__"))
 gt:findIn K (.ref C) "__getattr__" = some none
 cl:findIn K (.ref C) "__class__" = some (some (.builtin "object.__class__"))
 cg:specialIn K (.builtin "object.__class__") "__get__" = some (some (.builtin "getset_descriptor.__get__"))
 ct:takesIn K (.builtin "object.__class__")=some true
theorem xby {fill expr:Bool}{tk:Tok}{Q:Value->Shared->Prop}(X:K.In s.heap)(c:XC K C)(I:PySem.W.InstAt s.heap x ox C od)
  (h:wpAny (model prog w) A.in1 (Builtin.«object.__getattribute__» ⟨[.ref x,.str name tk],[]⟩)
   (λ fin s'=>match fin with | .done (.ret v)=>wpAny (model prog w) A (handedOut v) Q E s' | _=>False) (λ _ _=>False) s) :
  wpAny (model prog w) A (getAttrBy (.ref x) (.str name tk) fill expr) Q E s:=by
 unfold getAttrBy
 refine wpAny_holding (wpAny_bind (I.type.here (wpAny_bind ((looks_findIn X c.ga).here ?_))))
 have e1:(onTheHeap (Value.ref C) && (Value.builtin "BaseException.__getattribute__" == Value.builtin "object.__getattribute__"))=false:=by rw [show (Value.builtin "BaseException.__getattribute__" == Value.builtin "object.__getattribute__")=false from by decide,Bool.and_false]
 dsimp only
 rw [if_neg (by rw [e1]; decide)]
 unfold getAttrByItsOwn hookBefore
 refine wpAny_bind ?_
 rw [if_pos (show onTheHeap (Value.ref C)=true from rfl)]
 refine (looks_findIn X c.gt).here ?_
 refine wpAny_bind (wpAny_attempt (wpAny_holding ?_))
 unfold callGetattribute
 rw [if_neg (by rw [show onTheHeap (Value.builtin "BaseException.__getattribute__")=false from rfl,Bool.and_false]; decide)]
 unfold boundAndCalled
 rw [PySem.F.excAttr_ValueError.ga.bind]
 refine wpAny_bind (wpAny_pure ?_)
 refine wpAny_call (codeAny_call_builtin PySem.F.excAttr_ValueError.ga.plain PySem.F.entry_bexc_ga (@check_slot (model prog w) _ _ s _ "BaseException" "__getattribute__" (.ref x) [.str name tk] [] _ aa0 yJ (agF X c.x I (by decide)) (PySem.F.args_bexc_ga _ _) ?_))
 refine wpAny_mono h (λ fin s' z=>?_) λ _ _ z=>z.elim
 rcases fin with (_ | _ | _ | _) | _ <;> first | exact z | exact z.elim
theorem ahc {expr:Bool}{Q:Value->Shared->Prop}(X:K.In s.heap)(c:XC K C)(I:PySem.W.InstAt s.heap x ox C od)(hf:findObj K C od name=some (.value v))(hh:handedIn v=true)(h:Q v { s with toks:=s.toks+1 }) :
  wpAny (model prog w) A (getAttr (.ref x) name expr) Q E s:=by
 unfold getAttr
 refine wpAny_bind (wpAny_mkText (xby (s:={ s with toks:=s.toks+1 }) X c I ?_))
 refine wpAny_bind (wpAny_pure (wpAny_bind (wpAny_pure (wpAny_bind (PySem.W.Looks.here (s:={ s with toks:=s.toks+1 }) I.type (wpAny_bind (PySem.W.Looks.here (s:={ s with toks:=s.toks+1 }) (looks_find X I hf) ?_)))))))
 refine wpAny_pure ?_
 show wpAny _ _ (handedOut v) _ _ _
 rw [handedOut_of hh]; exact wpAny_pure h
theorem XC.mro (c:XC K C):mroIn K C (.type "object")=some true:=by
 obtain ⟨cd,hc,_,hm⟩:=fh c.x
 unfold mroIn
 rw [hc,Option.bind_some,if_neg (by rw [ny hm]; decide),nU "object" (by decide) hm]
theorem XC.at (c:XC K C):∃ cd o dd sl,K.lookup C=some ⟨o,dd,.cls cd,sl⟩:=by
 obtain ⟨cd,hc,_,_⟩:=fh c.x
 unfold clsIn at hc
 split at hc
 ·rename_i ho; exact ⟨_,_,_,_,ho⟩
 ·cases hc
theorem XC.look {M:Model}{h:Heap}(c:XC K C)(X:K.In h):Looks M h (isType (.ref C)) true:=by
 obtain ⟨cd,o,dd,sl,ho⟩:=c.at
 refine λ A' Q' E' s' k q=>?_
 unfold isType loadHead
 exact wpAny_bind (wpAny_loadPart (k _ _ (X _ _ ho)) (wpAny_pure q))
theorem ad8 {Q:Option Value->Shared->Prop}(X:K.In s.heap)(c:XC K C)(I:PySem.W.InstAt s.heap x ox C od)(h:Q (some (.ref C)) { s with toks:=s.toks+1 }):wpAny (model prog w) A (getAttr? (.ref x) "__class__") Q E s:=by
 obtain ⟨cd,hc,_,hm⟩:=fh c.x
 have hf:findObj K C od "__class__" = some (.bind (.builtin "getset_descriptor.__get__") (.builtin "object.__class__")):=by
  unfold findObj
  rw [hc,Option.bind_some,c.cl,Option.bind_some]
  simp [c.cg,c.ct]
 unfold getAttr? getAttrBy?
 refine wpAny_bind (wpAny_mkText (wpAny_bind (wpAny_attempt (xby (s:={ s with toks:=s.toks+1 }) X c I ?_))))
 refine wpAny_bind (wpAny_pure (wpAny_bind (wpAny_pure (wpAny_bind (PySem.W.Looks.here (s:={ s with toks:=s.toks+1 }) I.type (wpAny_bind (PySem.W.Looks.here (s:={ s with toks:=s.toks+1 }) (looks_find X I hf) ?_)))))))
 show wpAny _ _ (holding [Value.builtin "object.__class__"] (call (.builtin "getset_descriptor.__get__") [.builtin "object.__class__",.ref x,.ref C]) >>= ret) _ _ _
 refine wpAny_bind (wpAny_holding (wpAny_call (class_get (s:={ s with toks:=s.toks+1 }) X I c.mro ?_)))
 exact wpAny_pure (handed_on rfl (wpAny_pure h))
theorem zX (c:XC K C):KitX K (.ref x) (.ref C) (λ h=>PySem.W.InstAt h x ox C od) where
 ty:=λ _ _ _ I=>I.type
 it:=λ _ _ X _=>c.look X
 ne:=λ h tp dd its n sl X htp=>by
  obtain ⟨cd,o,d',s',e⟩:=c.at
  refine Bool.eq_false_iff.mpr λ q=>?_
  cases Value.ref.inj (beq_iff_eq.mp q)
  have z:=(X _ _ e).symm.trans htp
  cases z
 ca:=λ X I k=>ad8 X c I k
end
end XO
namespace XO
open PySem PySem.Spec PyProof.Rows PySem.W Builtin.ObjectAttr
def xmk (K:Frag)(C:Addr):Bool:=match K.lookup C with
 | some ⟨.type "type",_,.cls cd,sl⟩=>(match cd.mro,sl.toList with
  | .ref D :: bm,[_,_,_,_,some (.builtin n),_]=>D == C && n == "ValueError.__new__" && !cd.hasDel && tailIn K rQ bm
  | _,_=>false)
 | _=>false
theorem aaK {K:Frag}{C:Addr}{h:Heap}(X:K.In h)(e:xmk K C=true):∃ nm q N bs bm hdct sn sub ab col dd k0 k1 k2 k3 k5,
  h.get? C=some (excClassObj nm q C N bs bm hdct sn sub ab col dd k0 k1 k2 k3 k5 "ValueError.__new__")/\OwnTail h rQ bm:=by
 unfold xmk at e
 split at e
 ·rename_i dd cd sl ho
  split at e
  ·rename_i D bm a0 a1 a2 a3 n a5 hm hs
   simp only [Bool.and_eq_true,beq_iff_eq,Bool.not_eq_true'] at e
   obtain ⟨⟨⟨h1,h2⟩,h3⟩,h4⟩:=e
   subst h1 h2
   obtain ⟨c1,c2,c3,c4,c5,c6,c7,c8,c9,c10,c11⟩:=cd
   dsimp only at hm h3
   subst hm h3
   obtain ⟨l⟩:=sl
   simp only at hs
   subst hs
   exact ⟨_,_,_,_,_,_,_,_,_,_,_,_,_,_,_,_,X _ _ ho,tail_of_in X h4⟩
  ·cases e
 ·cases e
abbrev uZ (C t:Addr):Obj:={ cls:=.ref C,data:=.fields #[.ref t,.none,.none,.none,.bool false,.none] }
section
variable {prog:Program}{w:World}{A:Around}{E:Value->Shared->Prop}{K:Frag}{C f:Addr}{h:Heap}{g:Array GenState}{d:Drawn}{t:Nat}{os:OsState}
theorem afC {us:List Value}{Q:PySem.Fin->Shared->Prop}(X:K.In h)(c:XC K C)(q:xmk K C=true)(hi:findIn K (.ref C) "__init__" = some (some (.ref f)))(hf:typeIn K (.ref f)=some (.type "function"))(hz:us.length<=sizeLine)
  (k:wpAny (model prog w) A (call (.ref f) (.ref (h.objs.size+1) :: us)) (λ r s'=>r=.none/\Q (.done (.ret (.ref (h.objs.size+1)))) s') E
   ⟨(h.push { cls:=.type "tuple",data:=.seq us.toArray }).push (uZ C h.objs.size),g,d,t,os⟩) :
  wpAny (model prog w) A (Builtin.«type.__call__» ⟨.ref C :: us,[]⟩) Q E ⟨h,g,d,t,os⟩:=by
 obtain ⟨nm,q',N,bs,bm,hdct,sn,sub,ab,col,dd,k0,k1,k2,k3,k5,hC,T⟩:=aaK X q
 have B:=PySem.F.excBase_ValueError
 repeat (first | with_reducible refine wpAny_loadPart_at hC ?_ | with_reducible refine wpAny_madeBy_exc hC ?_ | wp_step)
 refine codeAny_call_builtin_code (Code.quiet_builtin _ B.quiet) (wpAny_check_new_subT B T hC (codeAny_exc_new_subT B T hC ?_ hz))
 show wpAny _ _ _ _ _ _
 have kp:∀ b o,h.get? b=some o->((h.push { cls:=.type "tuple",data:=.seq us.toArray }).push (uZ C h.objs.size)).get? b=some o:=λ b o z=>Heap.get?_push_of_some _ (Heap.get?_push_of_some _ z)
 have X1:=X.keeps kp
 have eg:((h.push { cls:=.type "tuple",data:=.seq us.toArray }).push (uZ C h.objs.size)).get? (h.objs.size+1)=some (uZ C h.objs.size):=by heap_get
 have I:PySem.W.InstAt ((h.push { cls:=.type "tuple",data:=.seq us.toArray }).push (uZ C h.objs.size)) (h.objs.size+1) (uZ C h.objs.size) C none:=⟨eg,rfl,rfl,True.intro⟩
 obtain ⟨cd,hc,_,hm⟩:=fh c.x
 have hsub:Looks (model prog w) ((h.push { cls:=.type "tuple",data:=.seq us.toArray }).push (uZ C h.objs.size)) (isInstance (.ref (h.objs.size+1)) (.ref C)) true:=by
  refine I.type.andThen (λ A' Q' E' s' k' z=>?_)
  exact wpAny_isSubtype_exc (h:=s'.heap) (g:=s'.gens) (d:=s'.drawn) (t:=s'.toks) (os:=s'.os) (k' _ _ (kp _ _ hC)) (by rw [show (Value.ref C :: bm).contains (Value.ref C)=true from by simp]; exact z)
 refine wpAny_bind (hsub.here ?_)
 rw [if_neg (by decide)]
 refine wpAny_bind (wpAny_holding (special_fn (s:=⟨_,g,d,t,os⟩) X1 I hi hf (wpAny_mono k (λ r s' z=>?_) λ _ _ z=>z)))
 obtain ⟨rfl,z⟩:=z
 exact wpAny_pure z
theorem af5 {us:List Value}{Q:Value->Shared->Prop}(X:K.In h)(c:XC K C)(q:xmk K C=true)(hi:findIn K (.ref C) "__init__" = some (some (.ref f)))(hf:typeIn K (.ref f)=some (.type "function"))(hz:us.length<=sizeLine)
  (k:wpAny (model prog w) (A.under (.builtin "type.__call__" ⟨.ref C :: us,[]⟩)) (call (.ref f) (.ref (h.objs.size+1) :: us)) (λ r s'=>r=.none/\Q (.ref (h.objs.size+1)) s') E
   ⟨(h.push { cls:=.type "tuple",data:=.seq us.toArray }).push (uZ C h.objs.size),g,d,t,os⟩) :
  wpAny (model prog w) A (call (.ref C) us) Q E ⟨h,g,d,t,os⟩:=by
 obtain ⟨nm,q',N,bs,bm,hdct,sn,sub,ab,col,dd,k0,k1,k2,k3,k5,hC,T⟩:=aaK X q
 have l1:=tc_lookup
 have l2:=tc_bind (.ref C)
 have l3:(⟨h,g,d,t,os⟩:Shared).TypeIs (.ref C) "type" := ⟨_,hC,rfl⟩
 refine wpAny_call (codeAny_of_tree ?_)
 show wpAny _ _ (callAny (.ref C) ⟨us,[]⟩) _ _ _
 repeat (any_goals (first | with_reducible refine wpAny_loadPart_at hC ?_ | assumption | wp_step))
 exact ⟨rfl,codeAny_call_builtin_at (Code.quiet_builtin _ (by decide +kernel)) entry_typeCall (wpAny_check_type_call_sub hC (afC X c q hi hf hz k))⟩
end
end XO
namespace XO
open PySem PySem.Spec PyProof.Rows PySem.W
abbrev qM (C:Addr)(dct:Option Addr)(vs:Array Value):Obj:={ cls:=.ref C,dict:=dct,data:=.fields vs }
def Tb (h:Heap)(e:Addr)(vs:Array Value):Prop:=vs[1]? = some .none\/∃ T oT ts,vs[1]? = some (.ref T)/\T≠e/\h.get? T=some oT/\oT.data=.fields ts/\ts[3]? = some .none
theorem Tb.size {h:Heap}{e:Addr}{vs:Array Value}(t:Tb h e vs):1 < vs.size:=by
 rcases t with z | ⟨_,_,_,z,_⟩ <;> exact (Array.getElem?_eq_some_iff.mp z).1
section
variable {M:Model}{A:Around}{E:Value->Shared->Prop}{s:Shared}{base:Heap}{env:PySem.Env}{outer:List PySem.Env}{L e C:Addr}{dct:Option Addr}{vs:Array Value}
structure Seen (fs:List Addr)(e:Addr)(h h':Heap):Prop where
 keep:∀ b o,b≠e->b ∉ fs->h.get? b=some o->h'.get? b=some o
 slot:∀ b o,b∈fs->h.get? b=some o->∃ sl,h'.get? b=some { o with slots:=sl }
theorem yP {Q:Unit->Shared->Prop}(hfr:A.frames=some (env :: outer))(hl:s.heap.FunFrames base (env :: outer))(hf:env.frame=some L)(he:s.heap.get? e=some (qM C dct vs))(tb:Tb s.heap e vs)
  (q:∀ h' vs',h'.get? e=some (qM C dct vs')->Tb h' e vs'->vs'[1]? ≠ some .none->Seen ((env :: outer).filterMap (·.frame)) e s.heap h'->Q () { s with heap:=h' }) :
  wpAny M A (noteFrame (.ref e) env) (λ _ s1=>wpAny M A (setFlight (.ref e) none) Q E s1) E s:=by
 have nfr:∀ b o us,s.heap.get? b=some o->o.data=.fields us->b ∉ (env :: outer).filterMap (·.frame):=λ b o us z zd hm=>by
  obtain ⟨_,o',ho,hn⟩:=hl.mem hm
  rw [z] at ho
  cases ho
  exact hn us zd
 have main:∀ (head:Value) (had:Bool),wpAny M A (do let a <- frameOf env; let pl <- entryPlaceOf L had; let b <- EntryCells.newEntry head a .none (rawInt L) .none pl; setField (.ref e) 1 b) (λ _ s1=>wpAny M A (setFlight (.ref e) none) Q E s1) E s:=by
  intro head had
  refine wpAny_bind (wpAny_frameOf_fun hfr hl hf λ h1 so=>wpAny_bind (wpAny_entryPlaceOf λ pl hpl=>?_))
  unfold EntryCells.newEntry newFields
  refine wpAny_bind (wpAny_newObj_type ?_ (hpl.sizeOk5 _ _ _ _ _))
  have e1:h1.get? e=some (qM C dct vs):=(so.2.1 e (nfr e _ vs he rfl)).trans he
  generalize hts:([head,Value.ref L,.none,rawInt L,.none]++(if pl.isEmpty then List.replicate 6 Value.none else pl)).toArray=ts
  have hts3:3 < ts.size:=by
   rw [<- hts]
   simp only [List.size_toArray,List.length_append,List.length_cons,List.length_nil] <;> omega
  have e2:=Heap.get?_push_of_some (h:=h1) { cls:=.type "traceback",dict:=none,data:=.fields ts } e1
  refine wpAny_setField e2 rfl tb.size ?_
  have ne:h1.objs.size≠e:=Nat.ne_of_gt (Heap.lt_size e1)
  have e3:((h1.push { cls:=.type "traceback",dict:=none,data:=.fields ts }).update e (Obj.mapFields (·.setIfInBounds 1 (Value.ref h1.objs.size)))).get? e=some (qM C dct (vs.setIfInBounds 1 (Value.ref h1.objs.size))) :=
   Heap.get?_update_self _ e2 rfl
  have e4:((h1.push { cls:=.type "traceback",dict:=none,data:=.fields ts }).update e (Obj.mapFields (·.setIfInBounds 1 (Value.ref h1.objs.size)))).get? h1.objs.size=some { cls:=.type "traceback",dict:=none,data:=.fields ts } :=
   (Heap.get?_update_other _ _ (Ne.symm ne)).trans (Heap.get?_push_size h1 rfl)
  have v1:(vs.setIfInBounds 1 (Value.ref h1.objs.size))[1]? = some (Value.ref h1.objs.size):=by simp [tb.size]
  unfold setFlight
  refine wpAny_bind (wpAny_field e3 rfl v1 ?_)
  rw [if_pos (show (Value.ref h1.objs.size != Value.none)=true from by simp)]
  refine wpAny_setField e4 rfl hts3 (q _ (vs.setIfInBounds 1 (Value.ref h1.objs.size)) ?_ (.inr ⟨h1.objs.size,_,ts.setIfInBounds 3 .none,v1,ne,Heap.get?_update_self _ e4 rfl,rfl,by simp [hts3]⟩) (by rw [v1]; intro z; cases z) ?_)
  ·rw [Heap.get?_update_other _ _ ne]; exact e3
  ·have kp:∀ b o,b≠e->h1.get? b=some o->(((h1.push { cls:=.type "traceback",dict:=none,data:=.fields ts }).update e (Obj.mapFields (·.setIfInBounds 1 (Value.ref h1.objs.size)))).update h1.objs.size
     (Obj.mapFields (·.setIfInBounds 3 ((none:Option Addr).elim Value.none λ f=>rawInt f)))).get? b=some o:=λ b o hb z=>by
    rw [Heap.get?_update_other _ _ (Nat.ne_of_gt (Heap.lt_size z)),Heap.get?_update_other _ _ (Ne.symm hb)]
    exact Heap.get?_push_of_some _ z
   refine ⟨λ b o hb hm z=>kp b o hb ((so.2.1 b hm).trans z),λ b o hm z=>?_⟩
   obtain ⟨sl,z2⟩:=so.2.2 b o z
   exact ⟨sl,kp b _ (λ w=>nfr e _ vs he rfl (w ▸ hm)) z2⟩
 unfold noteFrame
 simp only [hf]
 rcases tb with z | ⟨T,oT,ts,z1,z2,z3,z4,z5⟩
 ·refine wpAny_bind (wpAny_field he rfl z ?_)
  rw [if_neg (by decide)]
  exact main _ _
 ·refine wpAny_bind (wpAny_field he rfl z1 ?_)
  rw [if_pos (show (Value.ref T != Value.none)=true from by simp)]
  refine wpAny_bind (wpAny_field z3 z4 z5 ?_)
  rw [if_neg (show ¬ ((Value.none == rawInt L)=true) from by simp [rawInt])]
  refine wpAny_bind (wpAny_setField z3 z4 (Array.getElem?_eq_some_iff.mp z5).1 ?_)
  rw [Heap.update_setField_same s.heap T oT ts 3 .none z3 z4 z5]
  exact main _ _
end
end XO
namespace L2
open PySem PySem.Spec PyProof.Rows XO
def XF (e C:Addr)(dct:Option Addr):Heap->Prop:=λ h=>∃ vs,h.get? e=some (qM C dct vs)
def DX (dx:Addr)(l:List (Str×V)):Heap->Prop:=λ h=>∃ mA,h.Ns1 dx mA/\(∀ f,nk (l.lookup f) (mA f))/\PySem.Within mA (l.map (·.1))
def Air (H:Hp)(h:Heap)(e:Addr):Prop:=∃ C dct vs,H e=some (.ext (XF e C dct))/\h.get? e=some (qM C dct vs)/\Tb h e vs
theorem aer {P:Program}{w:World}{H:Hp}{h:Heap}{e C:Addr}{dct:Option Addr}{vs:Array Value}(z:h.get? e=some (qM C dct vs)):bX P w H h e (.ext (XF e C dct)) :=
 ⟨⟨vs,z⟩,⟨_,z⟩,λ h1 h2 ⟨us,e1⟩ k=>⟨us,k _ e1⟩⟩
theorem afp {P:Program}{w:World}{H:Hp}{h:Heap}{dx:Addr}{l:List (Str×V)}(z:DX dx l h):bX P w H h dx (.ext (DX dx l)) :=
 ⟨z,let ⟨_,⟨o,_,_,e,_⟩,_⟩:=z; ⟨o,e⟩,λ h1 h2 ⟨mA,n,r⟩ k=>⟨mA,n.at k,r⟩⟩
section
variable {X:Cx}{pins:List (Addr×Obj)}{σ:St}{H:Hp}{s:Shared}{a:Addr}
theorem Inv.seen {C:Addr}{dct:Option Addr}{vs:Array Value}{h':Heap}(I:Inv X pins σ H s)(e:H a=some (.ext (XF a C dct)))(he:h'.get? a=some (qM C dct vs))(sn:Seen (frs X.stack) a s.heap h'):Inv X pins σ H { s with heap:=h' }:=by
 have nfs:∀ b u,H b=some u->b ∉ frs X.stack:=λ b u z hb=>by rw [I.mZ b hb] at z; cases z
 refine I.call (g':=s.gens) (t':=s.toks) (d':=s.drawn) (ch:=[]) ⟨λ b o z n hb _=>sn.keep b o (λ w=>by rw [w,e] at n; cases n) hb z,λ b o z _ hb _=>sn.slot b o hb z,λ _ _ _ n _=>n,λ b o z _=>?_,λ _ _ z=>z,λ _ _ _ z=>z,λ _ ps z=>⟨#[],by rw [z]; simp⟩⟩ (λ b o z=>?_) I.bare (λ b z=>absurd z (by simp))
 ·by_cases hb:b=a
  ·subst hb; exact ⟨_,he⟩
  ·by_cases hm:b∈frs X.stack
   ·obtain ⟨sl,q⟩:=sn.slot b o hm z; exact ⟨_,q⟩
   ·exact ⟨o,sn.keep b o hb hm z⟩
 ·by_cases hb:b=a
  ·subst hb
   rw [e] at z
   cases z
   exact aer he
  ·refine (I.hok b o z).rL (λ c u hc q=>sn.keep c u ?_ ?_ q) (λ _ q=>q) λ _ _ q=>q
   ·rcases hc with w | w
    ·rw [w]; exact hb
    ·intro y; rw [y,e] at w; cases w
   ·rcases hc with w | w
    ·rw [w]; exact nfs b o z
    ·exact nfs c _ w
theorem Inv.yP {Q:Unit->Shared->Prop}{E:Value->Shared->Prop}{A:Around}(I:Inv X pins σ H s)(hA:A.frames=some X.stack)(hst:X.stack=X.env :: X.outer)(hf:X.env.frame=some X.env.locals)(air:Air H s.heap a)
  (q:∀ s',Inv X pins σ H s'->Air H s'.heap a->Q () s'):wpAny (model X.prog X.w) A (noteFrame (.ref a) X.env) (λ _ s1=>wpAny (model X.prog X.w) A (setFlight (.ref a) none) Q E s1) E s:=by
 obtain ⟨C,dct,vs,e1,e2,e3⟩:=air
 have st:=I.stack
 rw [hst] at st hA
 refine XO.yP hA st hf e2 e3 λ h' vs' g1 g2 _ g3=>q _ (I.seen e1 g1 ?_) ⟨C,dct,vs',e1,g1,g2⟩
 rw [hst]; exact g3
end
def CXE (P:Program)(w:World):CXT:=λ outer H s E e s'=>∃ a H',e=.ref a/\s'.os=s.os/\AllBare s'.gens/\Un (frs outer) [] H H' s.heap s'.heap/\HOk P w H' s'.heap/\Air H' s'.heap a/\E e none H'
section
variable {X:Cx}{CX:CXT}{k:Nat}{f C:Addr}{fd:FuncData}{ps:List Str}{sp:Sp}{E:XK}{pins:List (Addr×Obj)}{σ:St}{H:Hp}{s:Shared}{Q:VK}{us:List Value}{vs:List V}
theorem ab5 (F:bV X.prog X.w X.K X.mg X.base CX k f fd ps sp)(hr:cG k X.A)(hb:Binds X.K fd ps [])(I:Inv X pins σ H s)(r:Vals vs us)(h:sp vs H Q E)(hx:∀ e s',CX X.stack H s E e s'->X.xe e s') :
  wpAny (model X.prog X.w) X.A (call (.ref f) us) (EP X pins σ Q) X.xe s:=by
 have hl:(us++[]).length=ps.length:=by rw [List.append_nil,<- r.length]; exact F.len _ _ _ _ h
 have b:=hb s us I.kIn hl
 rw [List.append_nil] at b
 refine wpAny_call (codeAny_mono (F.run X.A X.stack s H ⟨us,[]⟩ us vs Q E hr I.ac2 b r h) λ r s' hq=>?_)
 cases r with
 | error e=>exact hx e s' hq
 | ok fl=>cases fl <;> first | exact I.after hq | exact False.elim hq
end
end L2
namespace D
open PySem PySem.Spec PyProof.Rows L2 XO
abbrev XQ:=Addr->MH->Prop
abbrev XE:=Addr->DS->MH->Prop
abbrev SpX:=List W->MH->QD->XQ->Prop
def pU (K:PySem.W.Frag)(sp:SpX):Sp:=λ vs H Q E=>∃ ws M Qd Ed,aJ K H ws vs/\cm K H M/\sp ws M Qd Ed/\Kont K H Qd Q/\∀ a H' M',Kp H H'->cm K H' M'->Ed a M'->E (.ref a) none H'
def Lk (X:Cx)(E:XE):Prop:=∀ (pins:List (Addr×Obj)) (σ:St) (H:Hp) (s:Shared) (a:Addr) (τ:DS) (M:MH),Inv X pins σ H s->Air H s.heap a->Abs X.K H σ τ M->E a τ M->X.xe (.ref a) s
section
variable {P:Program}{w:World}{K:PySem.W.Frag}{mg:Str->Option Value}{base:Heap}
theorem aei {N:List Str}{qual:Str}{scope:Scope}{f:Addr}{cd:Value}{A:Around}{outer:List Env}{s:Shared}{H:Hp}{E:XK}{Ed:XQ}(he:∀ a H' M',Kp H H'->cm K H' M'->Ed a M'->E (.ref a) none H') :
  Lk (uz (CXE P w) P w K mg base N qual scope f cd A outer s H E) λ a _ M=>Ed a M:=by
 intro pins σ H1 s1 a τ M I air ab e
 show wpAny _ _ (leaving _ _) _ _ _
 unfold leaving
 refine wpAny_bind (I.yP I.ok.frames rfl rfl air λ s2 J air2=>?_)
 exact ⟨a,H1,rfl,J.os,J.bare,J.base,J.hok,air2,he a H1 M (Kp.un J.base) ab.mem e⟩
theorem ya {x qual:Str}{st:Stmt}{f:Addr}{fd:FuncData}{N ps:List Str}{k:Nat}{sp:SpX}{t:XE->TSd}(F:Fun K x qual st f fd)(S:aG N ps (ai st))(len:∀ ws M Q E,sp ws M Q E->ws.length=ps.length)
  (hbody:∀ (cdv:Value) (A:Around) (outer:List Env) (s:Shared) (H:Hp) (E:XK) (Ed:XE),cG k (A.deeper (envOfC qual (ai st) s.heap.objs.size f cdv))->Lk (uz (CXE P w) P w K mg base N qual (ai st) f cdv A outer s H E) Ed ->
   PassesOwn (model P w) (A.deeper (envOfC qual (ai st) s.heap.objs.size f cdv)) (envOfC qual (ai st) s.heap.objs.size f cdv) (uz (CXE P w) P w K mg base N qual (ai st) f cdv A outer s H E).xe ->
   kG (uz (CXE P w) P w K mg base N qual (ai st) f cdv A outer s H E) (aE st) (t Ed))
  (read:∀ ws M Q E,sp ws M Q E->t (λ a _ M=>E a M) { nx:=λ _ M'=>Q (.d .none) M',rt:=Q } (aQ N ws) M):bV P w K mg base (CXE P w) (k+1) f fd ps (pU K sp):=by
 obtain ⟨oc,od,kV,doc,pm,an,cdv,ct,osl,rfl,lk,hcd⟩:=F.ex
 refine yR lk hcd S (λ vs H Q E h=>?_) λ A outer s H vs Q E hr h=>?_
 ·obtain ⟨ws,M,Qd,Ed,r,_,q,_⟩:=h
  rw [<- r.length]
  exact len _ _ _ _ q
 ·obtain ⟨ws,M,Qd,Ed,r,m,q,kk,ke⟩:=h
  refine ⟨_,hbody cdv A outer s H E (λ a _ M=>Ed a M) hr (aei ke) PassesOwn.leaving,aQ N ws,M,_,hU r m,read ws M Qd Ed q,λ σ' H' τ' M' kp A' q'=>?_,λ v H' w' M' kp r' m' q'=>?_,λ σ' H' τ' M' kp A' q'=>q'.elim,λ σ' H' τ' M' kp A' q'=>q'.elim⟩
  ·exact kk _ H' _ M' kp (by simp [az,ay]) A'.mem q'
  ·exact kk v H' w' M' kp r' m' q'
end
section
variable {X:Cx}{pos p apos:Pos}{k:Nat}{f C:Addr}{fd:FuncData}{ps:List Str}{sp:SpX}{x m:Str}{e o:Expr}{es:List Expr}{t:TAd}{td:TD}{E:XE}
theorem ab4 {pins:List (Addr×Obj)}{σ:St}{H:Hp}{s:Shared}{τ:DS}{M:MH}(L:Lk X E)(I:Inv X pins σ H s)(ab:Abs X.K H σ τ M){E':XK}(hE:∀ v H',E' v none H'->∃ a M',v=.ref a/\Kp H H'/\cm X.K H' M'/\E a τ M'){u:Value}{s':Shared}
  (h:CXE X.prog X.w X.stack H s E' u s'):X.xe u s':=by
 obtain ⟨a,H',rfl,os,br,un,hok,air,q⟩:=h
 obtain ⟨a',M',e,kp,m',q'⟩:=hE _ _ q
 cases e
 exact L pins σ H' s' a τ M' (I.abb os un hok br (λ b z=>absurd z (by simp))) air (ab.go kp m') q'
def pS (C:Addr)(m:Str)(sp:SpX)(E:XE)(td:TD)(t:TAd)(τ:DS)(M:MH)(Q:QD):Prop:=td τ M λ w M1=>∃ a fs,w=.m a/\M1 a=some (.ins C fs)/\fs.lookup m=none/\t τ M1 λ ws M2=>sp (w :: ws) M2 Q λ a M'=>E a τ M'
theorem zf {pl:Sem Bool}(L:Lk X E)(he:PD X o td)(c:Cls X.K C)(hm:Meth X.K C m f)(F:bV X.prog X.w X.K X.mg X.base (CXE X.prog X.w) k f fd ps (pU X.K sp))(hr:cG k X.A)(hb:Binds X.K fd ps [])(ha:PAd X (e :: es) t)
  (ht:eval (.Call (.Attribute o m apos) (e :: es) [] pos) X.env=(do
   let ov <- eval o X.env
   standAt apos.atName
   let (f,first) <- holding [ov] (getMethod ov m pl)
   callWith pos f first (backTo pos (starEach (e :: es) X.env)) (backToKw pos (keywordEach [] X.env))):=by rfl)
  (h1:df e=false:=by rfl)(h2:(es.all λ e=>!df e)=true:=by rfl):PD X (.Call (.Attribute o m apos) (e :: es) [] pos) (pS C m sp E td t):=by
 intro pins s σ H Q I h
 obtain ⟨τ,M,Qd,A,h,k⟩:=h
 refine PySem.W.methodCall_KW (pl:=pl) (thn (he pins s σ H (λ x H1=>∃ w M1,Kp H H1/\az X.K H1 w x/\cm X.K H1 M1/\∃ a fs,w=.m a/\M1 a=some (.ins C fs)/\fs.lookup m=none/\t τ M1 λ ws M2=>sp (w :: ws) M2 Qd λ a M'=>E a τ M') I ⟨τ,M,_,A,h,λ v H1 w M1 kp r m q=>⟨w,M1,kp,r,m,q⟩⟩)
  λ u s1 ⟨y,H1,I1,ry,w,M1,kp1,r1,m1,a,fs,ew,hma,hl,q1⟩=>?_) ht
 subst ew
 obtain ⟨dx,l,e1,pr⟩:=m1 _ _ hma
 cases (show y=.ref a from r1)
 obtain rfl:u=Value.ref a:=ry
 have g:=dA m pr
 rw [hl] at g
 refine iA I1 e1 c hm (OR.none_of g) ?_
 refine PySem.W.callWith_K (first:=[.ref a]) (h₀:=X.base) I.ok.mod.kin hm.kp (thn (ha pos pins s1 σ H1 (λ vs H2=>∃ ws M2,Kp H1 H2/\aJ X.K H2 ws vs/\cm X.K H2 M2/\sp (.m a :: ws) M2 Qd λ a M'=>E a τ M') I1 ⟨τ,M1,_,A.go kp1 m1,q1,λ vs H2 ws M2 kp r m q=>⟨ws,M2,kp,r,m,q⟩⟩)
  λ us s2 ⟨vs,H2,I2,r,ws,M2,kp2,rw,m2,q⟩=>⟨I2.kIn,?_⟩) (bK e es X.env h1) (cE pos X.env es h2)
 exact ab5 (us:=.ref a :: us) (vs:=.ref a :: vs) (E:=λ v _ H'=>∃ a M',v=.ref a/\Kp H2 H'/\cm X.K H' M'/\E a τ M') F hr hb I2 (.cons rfl r) ⟨.m a :: ws,M2,Qd,_,.cons rfl rw,m2,q,kgo (kgo k kp1) kp2,λ a H' M' kp' m' e'=>⟨a,M',rfl,kp',m',e'⟩⟩ λ u s' hx=>ab4 L I2 ((A.go kp1 m1).go kp2 m2) (λ v H' z=>z) hx
end
end D
namespace XO
open PySem PySem.Spec PyProof.Rows PySem.W
section
variable {prog:Program}{w:World}{A:Around}{E:Value->Shared->Prop}{s:Shared}{K:Frag}{env:PySem.Env}
theorem aeM {x:Sem Value}{Q:Flow->Shared->Prop}(hh:A.handled=none)
  (h:wpAny (model prog w) A x (λ v s1=>∃ e C dct vs,v=.ref e/\K.In s1.heap/\aaX K C=true/\typeIn K (.ref C)=some (.type "type")/\s1.heap.get? e=some (qM C dct vs)/\vs[1]? = some .none/\E (.ref e) s1) E s) :
  wpAny (model prog w) A (raiseStmt env (some x) none) Q E s:=by
 unfold raiseStmt
 refine wpAny_bind (wpAny_mono h (λ v s1 z=>?_) λ _ _ z=>z)
 obtain ⟨e,C,dct,vs,rfl,X,c,ty,he,h1,q⟩:=z
 obtain ⟨hp,g,d,tk,os⟩:=s1
 have L:Looks (model prog w) hp (isType (.ref e)) false:=λ A' Q' E' s' k q=>by
  unfold isType loadHead
  exact wpAny_bind (wpAny_loadPart (k _ _ he) (wpAny_pure q))
 have T:Looks (model prog w) hp (typeOf (.ref e)) (.ref C):=(Looks.ld he).andThen .now
 obtain ⟨cd,hc,_,hm⟩:=fh c
 have S:Looks (model prog w) hp (isInstance (.ref e) (.type "BaseException")) true:=T.andThen (looks_mroIn X (by
  unfold mroIn
  rw [hc,Option.bind_some,if_neg (by rw [ny hm]; decide),nU "BaseException" (by decide) hm]))
 have N:Looks (model prog w) hp (isExcClass (.ref e)) false:=L.andThen .now
 have Y:=looks_typeIn (M:=model prog w) X ty
 have R:Looks (model prog w) hp (raisedInstance (.ref e)) (.ref e):=T.andThen (Y.andThen (by rw [if_pos (by decide)]; exact .now))
 have Z:Looks (model prog w) hp (excFromValue (.ref e) "exceptions must derive from BaseException") (.ref e):=by
  unfold excFromValue
  refine N.andThen ?_
  rw [if_neg Bool.false_ne_true]
  refine S.andThen ?_
  rw [if_pos rfl]
  exact .now
 refine wpAny_bind (wpAny_pure (wpAny_bind (wpAny_holding (Z.at ?_))))
 dsimp only
 refine wpAny_bind (L.at ?_)
 rw [if_neg Bool.false_ne_true]
 refine wpAny_bind (R.at ?_)
 unfold setFlight
 refine wpAny_bind (wpAny_bind (wpAny_field he rfl h1 ?_))
 rw [if_neg (by decide)]
 exact wpAny_pure (wpAny_raiseNew_none hh q)
end
end XO
namespace L2
open PySem PySem.Spec PyProof.Rows XO
def XV (e C:Addr)(dct:Option Addr)(vs:Array Value):Heap->Prop:=λ h=>h.get? e=some (qM C dct vs)
theorem adF {P:Program}{w:World}{H:Hp}{h:Heap}{e C:Addr}{dct:Option Addr}{vs:Array Value}(z:h.get? e=some (qM C dct vs)):bX P w H h e (.ext (XV e C dct vs)):=⟨z,⟨_,z⟩,λ h1 h2 e1 k=>k _ e1⟩
section
variable {X:Cx}{pins:List (Addr×Obj)}{σ:St}{H:Hp}{s:Shared}{a dx C:Addr}
theorem Inv.wr2 {φ φ':Heap->Prop}{u:HO}{h':Heap}{t':Nat}(I:Inv X pins σ H s)(e:H a=some (.ext φ))(hp:s.heap.objs.size<=dx)(kp:∀ b o,b≠a->s.heap.get? b=some o->h'.get? b=some o)
  (o1:bX X.prog X.w (upd (upd H dx u) a (.ext φ')) h' a (.ext φ'))(o2:bX X.prog X.w (upd (upd H dx u) a (.ext φ')) h' dx u):Inv X pins σ (upd (upd H dx u) a (.ext φ')) { s with heap:=h',toks:=t' }:=by
 have hn:H dx=none:=I.hok.fresh hp
 have ne:dx≠a:=λ z=>by rw [z,e] at hn; cases hn
 have at_:∀ b,b≠a->b≠dx->(upd (upd H dx u) a (.ext φ')) b=H b:=λ b h1 h2=>by rw [ao h1,ao h2]
 have nd:∀ b v,H b=some v->b≠dx:=λ b v z w=>by rw [w,hn] at z; cases z
 have na:∀ b v,H b=some v->(∀ ψ,v ≠ .ext ψ)->b≠a:=λ b v z q w=>by rw [w,e] at z; cases z; exact q _ rfl
 refine I.un ⟨λ b o z n _ _=>kp b o (λ w=>by rw [w,e] at n; cases n) z,λ b o z n _ _=>⟨o.slots,kp b o (λ w=>by rw [w,e] at n; cases n) z⟩,λ b o z n _=>?_,λ b o z _=>?_,λ b xs z=>?_,λ b o v z=>?_,λ b ps z=>⟨#[],?_⟩⟩ (λ b o z=>?_)
 ·rw [at_ b (λ w=>by rw [w,e] at n; cases n) (Nat.ne_of_lt (Nat.lt_of_lt_of_le (Heap.lt_size z) hp))]; exact n
 ·by_cases hb:b=a
  ·subst hb; exact o1.2.1
  ·exact ⟨o,kp b o hb z⟩
 ·rw [at_ b (na b _ z λ _ w=>nomatch w) (nd b _ z)]; exact z
 ·rw [at_ b (na b _ z λ _ w=>nomatch w) (nd b _ z)]; exact z
 ·rw [at_ b (na b _ z λ _ w=>nomatch w) (nd b _ z),z]; simp
 ·by_cases hb:b=a
  ·subst hb; rw [au] at z; cases z; exact o1
  ·rw [ao hb] at z
   by_cases hb2:b=dx
   ·subst hb2; rw [au] at z; cases z; exact o2
   ·rw [ao hb2] at z
    refine (I.hok b o z).rL (λ c v hc q=>kp c v ?_ q) (λ c q=>?_) λ c xs q=>?_
    ·rcases hc with w | w
     ·rw [w]; exact hb
     ·exact na c _ w λ _ y=>nomatch y
    ·rw [at_ c (na c _ q λ _ w=>nomatch w) (nd c _ q)]; exact q
    ·rw [at_ c (na c _ q λ _ w=>nomatch w) (nd c _ q)]; exact q
end
section
variable {X:Cx}{o value:Expr}{f:Str}{pos pos':Pos}{ta tv:TE}{C:Addr}
def sX0 (C:Addr)(ta tv:TE)(f:Str):TS:=λ D σ H=>tv σ H λ y H1=>ta σ H1 λ x H2=>∃ a vs,x=.ref a/\H2 a=some (.ext (XV a C none vs))/\∀ dx,H2 dx=none->dx≠a->D.nx σ (upd (upd H2 dx (.ext (DX dx [(f,y)]))) a (.ext (XV a C (some dx) vs)))
theorem af8 (c:XC X.K C)(n:cy X.K C f)(ha:PE X o ta)(hv:PE X value tv)(hs:swapsWith value (some (.Attribute o f pos')) pos.line X.env=pure false:=by rfl):PS X (.Assign [.Attribute o f pos'] value pos) (sX0 C ta tv f):=by
 intro pins s σ H D I h
 refine plainObj_wpAny_Assign_Attribute (thn (hv pins s σ H _ I h) λ u s1 ⟨y,H1,I1,ry,q⟩=>thn (ha pins s1 σ H1 _ I1 q) λ ov s2 ⟨x,H2,I2,rx,a,vs,ex,ea,q2⟩=>?_) hs
 subst ex
 obtain rfl:ov=Value.ref a:=rx
 have hx:s2.heap.get? a=some (qM C _ vs):=(I2.hok a _ ea).1
 refine agv I2.kIn c.x c.sa n hx λ h' tk dx g1 g2 g3 g4 g5=>?_
 refine ⟨σ,_,I2.wr2 ea g1 g5 (adF g3) (afp ⟨_,g4,λ g=>?_,λ g hg=>?_⟩),q2 dx (I2.hok.fresh g1) g2⟩
 ·by_cases e:g=f
  ·subst e
   simp only [List.lookup,beq_self_eq_true,if_true]; exact ry
  ·simp only [List.lookup,beq_eq_false_iff_ne.mpr e,if_neg e]; exact True.intro
 ·by_cases e:g=f
  ·rw [e]; simp
  ·exact absurd (by show (if g=f then some u else none)=none; rw [if_neg e]) hg
end
def xI (C:Addr)(fs:List Str):Sp:=λ vs H Q _=>∃ e ys us,vs=.ref e :: ys/\ys.length=fs.length/\H e=some (.ext (XV e C none us))/\∀ dx,H dx=none->dx≠e->Q .non (upd (upd H dx (.ext (DX dx (fs.zip ys)))) e (.ext (XV e C (some dx) us)))
section
variable {P:Program}{w:World}{K:PySem.W.Frag}{mg:Str->Option Value}{base:Heap}{C f:Addr}{fd:FuncData}{qual:Str}{st:Stmt}
theorem afM {p g:Str}{p1 p2 p3 p4:Pos}(F:Fun K "__init__" qual st f fd)(S:aG ["self",p] ["self",p] (ai st))(c:XC K C)(n:cy K C g)
  (hb:aE st=[.Assign [.Attribute (.Name "self" p1) g p2] (.Name p p3) p4])(hs:∀ env,swapsWith (.Name p p3) (some (.Attribute (.Name "self" p1) g p2)) p4.line env=pure false)(hp:(p == ("__debug__" : Str))=false)(hc:(p == ("__classdict__" : Str))=false):bV P w K mg base CX0 1 f fd ["self",p] (xI C [g]):=by
 refine F.ok (k:=0) S (λ vs H Q E ⟨e,ys,us,h1,h2,_⟩=>by rw [h1,List.length_cons,h2]; rfl) λ cdv A outer s H vs Q E hr h=>?_
 obtain ⟨e,ys,us,rfl,h2,h3,q⟩:=h
 obtain ⟨y,rfl⟩:∃ y,ys=[y]:=by
  match ys,h2 with
  | [y],_=>exact ⟨y,rfl⟩
 rw [hb]
 have v1:=S.par "self" (by simp)
 have v2:=S.par p (by simp)
 refine ⟨_,vR (af8 c n (xX (i:=0) rfl (v1.elim .inl λ z=>.inr (.inl z)) (by decide) (by decide)) (xX (i:=1) rfl (v2.elim .inl λ z=>.inr (.inl z)) hp hc) (hs _)),?_⟩
 exact ⟨y,rfl,.ref e,rfl,e,us,rfl,h3,λ dx hd ne=>q dx hd ne⟩
end
end L2
namespace D
open PySem PySem.Spec PyProof.Rows L2 XO
theorem sI {K:PySem.W.Frag}{H:Hp}:∀ (fs:List Str) {ws:List W} {vs:List V},aJ K H ws vs->Paired (λ (p:Str×W) (q:Str×V)=>p.1=q.1/\az K H p.2 q.2) (fs.zip ws) (fs.zip vs)
 | [],_,_,_=>.nil
 | _ :: _,_,_,.nil=>.nil
 | f :: fs,_,_,.cons r t=>.cons ⟨rfl,r⟩ (sI fs t)
section
variable {X:Cx}{pos p cpos:Pos}{k:Nat}{f C:Addr}{fd:FuncData}{ps fs:List Str}{x:Str}{e:Expr}{es:List Expr}{t:TAd}{E:XE}
def v5 (C:Addr)(fs:List Str)(E:XE)(t:TAd)(_:Ed)(τ:DS)(M:MH):Prop:=t τ M λ ws M1=>ws.length=fs.length/\ws.length<=1000/\∀ a,M1 a=none->E a τ (aK M1 a (.exc C (fs.zip ws)))
structure Xm (K:PySem.W.Frag)(C f:Addr):Prop where
 xc:XC K C
 xm:xmk K C=true
 ty:PySem.W.typeIn K (.ref C)=some (.type "type")
 hi:PySem.W.findIn K (.ref C) "__init__" = some (some (.ref f))
 hf:PySem.W.typeIn K (.ref f)=some (.type "function")
 kp:PySem.W.keepIn K (.ref C)=true
theorem jt (L:Lk X E)(c:Xm X.K C f)(F:bV X.prog X.w X.K X.mg X.base CX0 k f fd ps (xI C fs))(hr:cG (k+1) X.A)(hg:Gl X x)(hm:X.mg x=some (.ref C))(hb:Binds X.K fd ps [])(ha:PAd X (e :: es) t)
  (hdb:(x == ("__debug__" : Str))=false:=by decide)(h1:df e=false:=by rfl)(h2:(es.all λ e=>!df e)=true:=by rfl):PSd X (.Raise (some (.Call (.Name x p) (e :: es) [] cpos)) none pos) (v5 C fs E t):=by
 intro pins s σ H D I h
 obtain ⟨τ,M,Dd,A,h,_⟩:=h
 rw [arm_exec_Raise]
 refine wpAny_bind (wpAny_standAt (aeM (K:=X.K) hr.hd (wpAny_bind ?_)))
 refine wpAny_Call_Name_kw (gB I hg hm ?_ hdb)
 refine PySem.W.callWith_K (h₀:=X.base) I.ok.mod.kin c.kp (thn (ha cpos pins s σ H (λ vs H1=>∃ ws M1,Kp H H1/\aJ X.K H1 ws vs/\cm X.K H1 M1/\ws.length=fs.length/\ws.length<=1000/\∀ a,M1 a=none->E a τ (aK M1 a (.exc C (fs.zip ws)))) I
  ⟨τ,M,_,A,h,λ vs H1 ws M1 kp r m q=>⟨ws,M1,kp,r,m,q⟩⟩) λ us s1 ⟨vs,H1,I1,r,ws,M1,kp,rw1,m1,hl,hz,q⟩=>⟨I1.kIn,?_⟩) (bK e es X.env h1) (cE cpos X.env es h2)
 have hlv:vs.length=fs.length:=by rw [<- rw1.length]; exact hl
 have e0:H1 (s1.heap.objs.size+1)=none:=I1.hok.fresh (Nat.le_succ _)
 have J:Inv X pins σ (upd H1 (s1.heap.objs.size+1) (.ext (XV (s1.heap.objs.size+1) C none #[.ref s1.heap.objs.size,.none,.none,.none,.bool false,.none]))) { s1 with heap:=(s1.heap.push { cls:=.type "tuple",data:=.seq us.toArray }).push (uZ C s1.heap.objs.size) }:=by
  have I2:=I1.kept (t':=s1.toks) (h':=s1.heap.push { cls:=.type "tuple",data:=.seq us.toArray }) λ b u z=>Heap.get?_push_of_some _ z
  refine I2.laid (t':=s1.toks) (λ b u z=>Heap.get?_push_of_some _ z) (by show (s1.heap.push _).objs.size<=_; rw [Heap.size_push]; exact Nat.le_refl _) (adF ?_)
  have:=Heap.get?_push_size (s1.heap.push { cls:=.type "tuple",data:=.seq us.toArray }) (o:=uZ C s1.heap.objs.size) rfl
  rwa [Heap.size_push] at this
 have r2:Vals (V.ref (s1.heap.objs.size+1) :: vs) (Value.ref (s1.heap.objs.size+1) :: us):=.cons rfl r
 refine af5 (h:=s1.heap) (g:=s1.gens) (d:=s1.drawn) (t:=s1.toks) (os:=s1.os) I1.kIn c.xc c.xm c.hi c.hf (by show us.length<=_; have:=r.length; have:=rw1.length; have:=s16; omega) ?_
 have hq:=F.len (V.ref (s1.heap.objs.size+1) :: vs) (upd H1 (s1.heap.objs.size+1) (.ext (XV (s1.heap.objs.size+1) C none #[.ref s1.heap.objs.size,.none,.none,.none,.bool false,.none])))
  (λ v H3=>v=.non/\∃ dx,(upd H1 (s1.heap.objs.size+1) (.ext (XV (s1.heap.objs.size+1) C none #[.ref s1.heap.objs.size,.none,.none,.none,.bool false,.none]))) dx=none/\dx≠s1.heap.objs.size+1 /\
   H3=upd (upd (upd H1 (s1.heap.objs.size+1) (.ext (XV (s1.heap.objs.size+1) C none #[.ref s1.heap.objs.size,.none,.none,.none,.bool false,.none]))) dx (.ext (DX dx (fs.zip vs)))) (s1.heap.objs.size+1) (.ext (XV (s1.heap.objs.size+1) C (some dx) #[.ref s1.heap.objs.size,.none,.none,.none,.bool false,.none]))) E0
  ⟨_,vs,_,rfl,hlv,au,λ dx hd ne=>⟨rfl,dx,hd,ne,rfl⟩⟩
 have bnd:=hb { s1 with heap:=(s1.heap.push { cls:=.type "tuple",data:=.seq us.toArray }).push (uZ C s1.heap.objs.size) } (Value.ref (s1.heap.objs.size+1) :: us) J.kIn (by rw [List.append_nil,<- r2.length]; exact hq)
 rw [List.append_nil] at bnd
 refine wpAny_call (codeAny_mono (F.run _ X.stack { s1 with heap:=(s1.heap.push { cls:=.type "tuple",data:=.seq us.toArray }).push (uZ C s1.heap.objs.size) } _ ⟨Value.ref (s1.heap.objs.size+1) :: us,[]⟩ _ _ (λ v H3=>v=.non/\∃ dx,(upd H1 (s1.heap.objs.size+1) (.ext (XV (s1.heap.objs.size+1) C none #[.ref s1.heap.objs.size,.none,.none,.none,.bool false,.none]))) dx=none/\dx≠s1.heap.objs.size+1 /\
   H3=upd (upd (upd H1 (s1.heap.objs.size+1) (.ext (XV (s1.heap.objs.size+1) C none #[.ref s1.heap.objs.size,.none,.none,.none,.bool false,.none]))) dx (.ext (DX dx (fs.zip vs)))) (s1.heap.objs.size+1) (.ext (XV (s1.heap.objs.size+1) C (some dx) #[.ref s1.heap.objs.size,.none,.none,.none,.bool false,.none]))) E0
  (hr.make C us []) (J.ac2.make C us []) bnd r2 ⟨_,vs,_,rfl,hlv,au,λ dx hd ne=>⟨rfl,dx,hd,ne,rfl⟩⟩) λ rr s' hq'=>?_)
 cases rr with
 | error e=>exact False.elim hq'
 | ok fl =>
  cases fl with
  | next=>exact False.elim hq'
  | brk=>exact False.elim hq'
  | cont=>exact False.elim hq'
  | ret u =>
   obtain ⟨v,H3,I3,rv,ev,dx,hd,ne,eH⟩:=J.after hq'
   subst ev
   refine ⟨rv,wpAny_bind (wpAny_standAt (wpAny_pure ?_))⟩
   generalize ha0:s1.heap.objs.size+1=a at *
   generalize hu0:(#[.ref s1.heap.objs.size,.none,.none,.none,.bool false,.none]:Array Value)=u0 at *
   have e3a:H3 a=some (.ext (XV a C (some dx) u0)):=by rw [eH,au]
   have e3d:H3 dx=some (.ext (DX dx (fs.zip vs))):=by rw [eH,ao ne,au]
   have oa:s'.heap.get? a=some (qM C (some dx) u0):=(I3.hok a _ e3a).1
   obtain ⟨⟨mA,n1,r1,w1⟩,⟨od,hod⟩,_⟩:=I3.hok dx _ e3d
   have I4:=I3.write (x:=dx) (e:=dx) (o:=.frz od (.xd (fs.zip vs))) (h':=s'.heap) (t':=s'.toks) (by rw [e3d]; exact True.intro) (.inl rfl) (λ b q _ z=>z) ⟨od,hod⟩ ⟨hod,mA,n1,r1⟩
   have e4a:(upd H3 dx (.frz od (.xd (fs.zip vs)))) a=some (.ext (XV a C (some dx) u0)):=by rw [ao (Ne.symm ne)]; exact e3a
   have I5:=I4.write (x:=a) (e:=a) (o:=.ext (XF a C (some dx))) (h':=s'.heap) (t':=s'.toks) (by rw [e4a]; exact True.intro) (.inl rfl) (λ b q _ z=>z) ⟨_,oa⟩ (aer oa)
   have hdx:H1 dx=none:=by rw [ao ne] at hd; exact hd
   have at5:∀ b,b≠a->b≠dx->(upd (upd H3 dx (.frz od (.xd (fs.zip vs)))) a (.ext (XF a C (some dx)))) b=H1 b:=λ b z1 z2=>by rw [ao z1,ao z2,eH,ao z1,ao z2,ao z1]
   have st:∀ b u,H1 b=some u->(upd (upd H3 dx (.frz od (.xd (fs.zip vs)))) a (.ext (XF a C (some dx)))) b=some u:=λ b u z=>by
    rw [at5 b (λ y=>by rw [y,e0] at z; cases z) (λ y=>by rw [y,hdx] at z; cases z)]; exact z
   have k5:Kp H1 (upd (upd H3 dx (.frz od (.xd (fs.zip vs)))) a (.ext (XF a C (some dx)))):=⟨λ b xs z=>st b _ z,λ b o u z=>st b _ z⟩
   have m5:cm X.K (upd (upd H3 dx (.frz od (.xd (fs.zip vs)))) a (.ext (XF a C (some dx)))) (aK M1 a (.exc C (fs.zip ws))):=λ b mo z=>by
    by_cases hb:b=a
    ·subst hb
     rw [aa] at z
     cases z
     exact ⟨_,some dx,au,λ h ⟨vs,y⟩=>⟨vs,y⟩,.inr ⟨dx,od,fs.zip vs,rfl,by rw [ao ne,au],sI fs (rw1.keep k5)⟩⟩
    ·rw [ah hb] at z
     exact (m1 b mo z).keep k5 λ u y=>st b u y
   refine ⟨a,C,some dx,u0,rfl,I5.kIn,c.xc.x,c.ty,oa,by rw [<- hu0]; rfl,?_⟩
   exact L pins σ _ s' a τ _ I5 ⟨C,some dx,u0,au,oa,.inl (by rw [<- hu0]; rfl)⟩ (A.go (kp.trans k5) m5) (q a (m1.free e0))
end
end D
namespace L2
open PySem PySem.Spec PyProof.Rows XO
def p8 (H₀ H:Hp):Hp:=λ b=>match H b with
 | some (.tup xs)=>some (.tup xs)
 | some (.frz o u)=>some (.frz o u)
 | _=>H₀ b
theorem vw {H₀ H:Hp}{b:Addr}{xs:List V}(h:H b=some (.tup xs)):p8 H₀ H b=some (.tup xs):=by unfold p8; rw [h]
theorem wB {H₀ H:Hp}{b:Addr}{o:Obj}{u:HO}(h:H b=some (.frz o u)):p8 H₀ H b=some (.frz o u):=by unfold p8; rw [h]
theorem yi {H₀ H:Hp}{b:Addr}{v:HO}(h:p8 H₀ H b=some v):H₀ b=some v\/H b=some v:=by
 unfold p8 at h
 split at h
 ·rename_i e; rw [e]; exact .inr h
 ·rename_i e; rw [e]; exact .inr h
 ·exact .inl h
theorem mv {H₀ H:Hp}{b:Addr}(h:p8 H₀ H b=none):H₀ b=none:=by
 unfold p8 at h
 split at h
 ·cases h
 ·cases h
 ·exact h
theorem nz {H₀ H:Hp}{b:Addr}(h:H₀ b=none)(h2:H b=none):p8 H₀ H b=none:=by
 unfold p8; rw [h2]; exact h
abbrev Cx.lz (X:Cx)(H0:Hp)(pn:List (Addr×Obj))(xe:Value->Shared->Prop):Cx:={ X with H₀:=H0,pn:=pn,xe:=xe }
abbrev Cx.gm (X:Cx)(a:Addr):Cx:={ X with A:=X.A.mark (some (.ref a)),calm:=false,xe:=λ _ _=>False }
section
variable {X:Cx}{pins:List (Addr×Obj)}{σ:St}{H:Hp}{s:Shared}{xe:Value->Shared->Prop}
theorem Inv.aeA (I:Inv X pins σ H s):∀ b∈X.fs,H b=none:=λ b hb=>by
 obtain ⟨_,o,ho,_⟩:=I.ok.nN.mem hb
 exact I.base.free b o ho (I.ok.frf b hb) λ z=>I.ok.exfs b z hb
theorem Inv.afm (I:Inv X pins σ H s):Inv (X.lz (p8 X.H₀ H) (X.pn++pins) xe) [] σ H s:=by
 refine ⟨⟨I.ok.mod,I.ok.kind,I.ok.glob,I.ok.blt,I.ok.above,I.ok.inj,I.ok.has,I.ok.cab,I.ok.hd,I.ok.frames,I.ok.stk,I.ok.exf,λ b o e=>⟨(I.ok.bs b o e).1,nz (I.ok.bs b o e).2 (I.bs b o e).2⟩,I.ok.bsz,I.ok.noex,I.ok.exfs,I.ok.nN,λ b hb=>nz (I.ok.frf b hb) (I.aeA b hb)⟩,
  I.os,I.bare,⟨λ b o e n hb hx=>I.base.keep b o e (mv n) hb hx,λ b o e n hb hx=>I.base.slot b o e (mv n) hb hx,λ b o e n hx=>I.base.free b o e (mv n) hx,I.base.there,λ b xs e=>?_,λ b o u e=>?_,λ b ps e=>?_⟩,
  I.loc,I.cell,I.free,I.freeC,λ p hp=>I.pin p (by simpa using hp),I.hok,I.len⟩
 ·rcases yi e with z | z
  ·exact I.base.tups b xs z
  ·exact z
 ·rcases yi e with z | z
  ·exact I.base.frzs b o u z
  ·exact z
 ·rcases yi e with z | z
  ·exact I.base.tbls b ps z
  ·exact ⟨#[],by rw [z]; simp⟩
theorem Inv.vq {pins':List (Addr×Obj)}{σ':St}{H':Hp}{s':Shared}(I:Inv X pins σ H s)(J:Inv (X.lz (p8 X.H₀ H) (X.pn++pins) xe) pins' σ' H' s'):Inv X pins σ' H' s':=by
 have nn:∀ b o,X.s₀.heap.get? b=some o->X.H₀ b=none->b ∉ X.ex->p8 X.H₀ H b=none:=λ b o e n hx=>nz n (I.base.free b o e n hx)
 exact ⟨I.ok,J.os,J.bare,⟨λ b o e n hb hx=>J.base.keep b o e (nn b o e n hx) hb hx,λ b o e n hb hx=>J.base.slot b o e (nn b o e n hx) hb hx,λ b o e n hx=>J.base.free b o e (nn b o e n hx) hx,J.base.there,λ b xs e=>J.base.tups b xs (vw (I.base.tups b xs e)),λ b o u e=>J.base.frzs b o u (wB (I.base.frzs b o u e)),λ b ps e=>by
  obtain ⟨m1,e1⟩:=I.base.tbls b ps e
  refine J.base.tbls b ps ?_
  show p8 X.H₀ H b=_
  unfold p8
  rw [e1]; exact e⟩,J.loc,J.cell,J.free,J.freeC,λ p hp=>J.pin p (List.mem_append_left _ hp),J.hok,J.len⟩
theorem Inv.gm (I:Inv X pins σ H s)(a:Addr):Inv (X.gm a) pins σ H s :=
 ⟨⟨I.ok.mod,I.ok.kind,I.ok.glob,I.ok.blt,I.ok.above,I.ok.inj,I.ok.has,I.ok.cab,(λ z=>nomatch z),I.ok.frames,I.ok.stk,I.ok.exf,I.ok.bs,I.ok.bsz,I.ok.noex,I.ok.exfs,I.ok.nN,I.ok.frf⟩,I.os,I.bare,I.base,I.loc,I.cell,I.free,I.freeC,I.pin,I.hok,I.len⟩
theorem Inv.uncaught {a:Addr}(ok:X.Ok)(I:Inv (X.gm a) pins σ H s):Inv X pins σ H s:=⟨ok,I.os,I.bare,I.base,I.loc,I.cell,I.free,I.freeC,I.pin,I.hok,I.len⟩
theorem Inv.gone {m':Str->Option Value}{h':Heap}{t':Nat}(I:Inv X pins σ H s)(hn:h'.Ns X.env.locals m')(sb:Heap.SameBut X.env.locals s.heap h'):Inv X pins (List.replicate σ.length none) H { s with heap:=h',toks:=t' }:=by
 have ne:∀ b o,X.s₀.heap.get? b=some o->b≠X.env.locals:=λ b o e=>Nat.ne_of_lt (Nat.lt_of_lt_of_le (Heap.lt_size e) I.ok.above)
 refine ⟨I.ok,I.os,I.bare,⟨λ b o e n hb hx=>(sb.2 b (ne b o e)).trans (I.base.keep b o e n hb hx),λ b o e n hb hx=>?_,I.base.free,λ b o e hx=>?_,I.base.tups,I.base.frzs,I.base.tbls⟩,⟨m',hn,λ i x v e1 e2 e3=>?_⟩,λ x c e=>?_,I.free,I.freeC,λ p hp=>?_,λ b o e=>?_,by rw [List.length_replicate]; exact I.len⟩
 ·obtain ⟨sl,z⟩:=I.base.slot b o e n hb hx
  exact ⟨sl,(sb.2 b (ne b o e)).trans z⟩
 ·obtain ⟨o',z⟩:=I.base.there b o e hx
  exact ⟨o',(sb.2 b (ne b o e)).trans z⟩
 ·rw [List.getElem?_replicate] at e2
  split at e2 <;> cases e2
 ·obtain ⟨v,z⟩:=I.cell x c e
  exact ⟨v,z.sameBut sb (I.cne x c e)⟩
 ·obtain ⟨z,n,nl,nf,d⟩:=I.pin p hp
  exact ⟨(sb.2 p.1 nl).trans z,n,nl,nf,d⟩
 ·refine (I.hok b o e).rL (λ c u hc q=>(sb.2 c λ z=>?_).trans q) (λ _ q=>q) λ _ _ q=>q
  rcases hc with y | y
  ·rw [z] at y; rw [<- y,I.free] at e; cases e
  ·rw [z,I.free] at y; cases y
theorem Air.aeJ {M:Model}{A:Around}{E:Value->Shared->Prop}{Q:Unit->Shared->Prop}{a:Addr}(air:Air H s.heap a)(q:Q () s):wpAny M A (setFlight (.ref a) none) Q E s:=by
 obtain ⟨C,dct,vs,e1,e2,tb⟩:=air
 unfold setFlight
 rcases tb with z | ⟨T,oT,ts,z1,z2,z3,z4,z5⟩
 ·refine wpAny_bind (wpAny_field e2 rfl z ?_)
  rw [if_neg (by decide)]
  exact wpAny_pure q
 ·refine wpAny_bind (wpAny_field e2 rfl z1 ?_)
  rw [if_pos (show (Value.ref T != Value.none)=true from by simp)]
  refine wpAny_setField z3 z4 (Array.getElem?_eq_some_iff.mp z5).1 ?_
  rw [show ((none:Option Addr).elim Value.none λ f=>rawInt f)=Value.none from rfl,Heap.update_setField_same s.heap T oT ts 3 .none z3 z4 z5]
  exact q
end
end L2
namespace D
open PySem PySem.Spec PyProof.Rows L2 XO
theorem Abs.forget {K:PySem.W.Frag}{H:Hp}{σ:St}{τ:DS}{M:MH}(h:Abs K H σ τ M):Abs K H (List.replicate σ.length none) (List.replicate τ.length none) M:=by
 refine ⟨by simp [h.len],λ i w e=>?_,h.mem⟩
 rw [List.getElem?_replicate] at e
 split at e <;> cases e
section
variable {X:Cx}{pos np hpos:Pos}{body suite:List Stmt}{b0:Stmt}{hs:List ExceptHandler}{h0:ExceptHandler}{tb:XE->TSd}{th rest:Addr->TSd}{ts:TSd}
def PHd (X:Cx)(hs:List ExceptHandler)(th:Addr->TSd):Prop:=∀ (pins:List (Addr×Obj)) (σ:St) (H:Hp) (s:Shared) (a:Addr) (D:Ends),Inv X pins σ H s->Air H s.heap a->upS X.K (th a) D σ H->wpAny (model X.prog X.w) X.A (handleBy (.ref a) X.env hs) (SP X pins D) X.xe s
def afJ (tb:XE->TSd)(th:Addr->TSd)(D:Ed)(τ:DS)(M:MH):Prop:=tb (λ a τ' M'=>th a D τ' M') D τ M
theorem qh (hst:X.stack=X.env :: X.outer)(hf:X.env.frame=some X.env.locals)
  (hb:∀ (H0:Hp) (pn:List (Addr×Obj)) (xe:Value->Shared->Prop) (E:XE),Lk (X.lz H0 pn xe) E->PassesOwn (model X.prog X.w) X.A X.env xe->kG (X.lz H0 pn xe) body (tb E))(hh:PHd X (h0 :: hs) th):PSd X (.Try body (h0 :: hs) [] [] pos) (afJ tb th):=by
 intro pins s σ H D I h
 obtain ⟨τ,M,Dd,A,h,k1,k2,k3,k4⟩:=h
 refine wpAny_Try_except ?_
 refine wpAny_mono (hb (p8 X.H₀ H) (X.pn++pins) (λ e s1=>wpAny (model X.prog X.w) X.A (noteFrame e X.env) (λ _ s2=>wpAny (model X.prog X.w) X.A (setFlight e none) (λ _ s3=>wpAny (model X.prog X.w) X.A (handleBy e X.env (h0 :: hs)) (SP X pins D) X.xe s3) X.xe s2) X.xe s1)
  (λ a τ' M'=>th a Dd τ' M') (λ pins' σ' H' s' a τ' M' J air ab e=>?_) PassesOwn.looking [] s σ H D I.afm ⟨τ,M,Dd,A,h,k1,k2,k3,k4⟩) (λ f s1 q=>?_) λ _ _ z=>z
 ·have J2:=I.vq J
  have kp:Kp H H':=⟨λ b xs z=>J.base.tups b xs (vw z),λ b o u z=>J.base.frzs b o u (wB z)⟩
  refine J2.yP J2.ok.frames hst hf air λ s3 J3 air3=>hh pins σ' H' s3 a D J3 air3 ⟨τ',M',Dd,ab,e,λ σ2 H2 τ2 M2 k=>k1 σ2 H2 τ2 M2 (kp.trans k),λ v H2 w M2 k=>k2 v H2 w M2 (kp.trans k),λ σ2 H2 τ2 M2 k=>k3 σ2 H2 τ2 M2 (kp.trans k),λ σ2 H2 τ2 M2 k=>k4 σ2 H2 τ2 M2 (kp.trans k)⟩
 ·cases f with
  | next=>obtain ⟨σ',H',J,q⟩:=q; exact wpAny_execs_nil ⟨σ',H',I.vq J,q⟩
  | brk=>obtain ⟨σ',H',J,q⟩:=q; exact ⟨σ',H',I.vq J,q⟩
  | cont=>obtain ⟨σ',H',J,q⟩:=q; exact ⟨σ',H',I.vq J,q⟩
  | ret u=>obtain ⟨v,σ',H',J,r,q⟩:=q; exact ⟨v,σ',H',I.vq J,r,q⟩
theorem rN:PHd X hs (λ _ _ _ _=>False):=λ pins σ H s a D I air ⟨τ,M,Dd,_,h,_⟩=>h.elim
def aba (tab:Addr->Option Bool)(i:Nat)(ts:TSd)(rest:Addr->TSd)(a:Addr)(D:Ed)(τ:DS)(M:MH):Prop:=∃ C fs b,M a=some (.exc C fs)/\tab C=some b /\
 if b=true then ts { nx:=λ τ2 M2=>D.nx (List.replicate τ2.length none) M2,rt:=D.rt,bk:=λ τ2 M2=>D.bk (List.replicate τ2.length none) M2,ct:=λ τ2 M2=>D.ct (List.replicate τ2.length none) M2 } (τ.set i (some (.m a))) M else rest a D τ M
theorem Air.cls {K:PySem.W.Frag}{H:Hp}{h:Heap}{a C:Addr}{M:MH}{fs:List (Str×W)}(air:Air H h a)(m:cm K H M)(e:M a=some (.exc C fs)):∃ dct vs,h.get? a=some (qM C dct vs):=by
 obtain ⟨C',dct,vs,e1,e2,_⟩:=air
 obtain ⟨φ,dct',g1,g2,_⟩:=m a _ e
 rw [e1] at g1
 cases g1
 obtain ⟨vs',e3⟩:=g2 h ⟨vs,e2⟩
 exact ⟨_,vs',e3⟩
theorem aaW {pins:List (Addr×Obj)}{σ:St}{H:Hp}{s:Shared}{a C D:Addr}{x:Str}{b:Bool}{R:Result->Shared->Prop}(I:Inv X pins σ H s)(hg:Gl X x)(hm:X.mg x=some (.ref D)){dct:Option Addr}{vs:Array Value}(he:s.heap.get? a=some (qM C dct vs))
  (ht:PySem.W.exmOne X.K (.ref C) (.ref D)=some b)(hdb:(x == ("__debug__" : Str))=false)(q:R (.ok (if b then .brk else .next)) s) :
  codeAny (model X.prog X.w) (X.A.mark (some (.ref a))) (.handlers (.ref a) [.ExceptHandler (some (.Name x np)) none [] hpos] X.env) R s:=by
 refine codeAny_handlers_test (gB (X:=X.gm a) (I.gm a) hg hm ?_ hdb)
 exact (PySem.W.exm_one (M:=model X.prog X.w) I.kIn ((PySem.W.Looks.ld he).andThen .now) ht).here q
theorem abX {x n:Str}{i:Nat}{Dc:Addr}{tab:Addr->Option Bool}(hg:Gl X x)(hm:X.mg x=some (.ref Dc))(ht:∀ C b,tab C=some b->PySem.W.exmOne X.K (.ref C) (.ref Dc)=some b)(hN:X.N.Nodup)(hi:X.N[i]? = some n)(hl:X.env.scope.names.lookup n=some .local)(hk:X.env.scope.kind=.function)
  (hsu:∀ a,kG (X.gm a) (b0 :: suite) ts)(hr:PHd X hs rest)(hdb:(x == ("__debug__" : Str))=false:=by decide):PHd X (.ExceptHandler (some (.Name x np)) (some n) (b0 :: suite) hpos :: hs) (aba tab i ts rest):=by
 intro pins σ H s a Dn I air h
 obtain ⟨τ,M,Dd,A,⟨C,fs,b,hma,htb,h⟩,k1,k2,k3,k4⟩:=h
 obtain ⟨dct,vs,he⟩:=Air.cls air A.mem hma
 refine wpAny_handleBy_cons (aaW I hg hm he (ht C b htb) hdb ?_) (by intro q; cases q)
 cases b with
 | false=>exact hr pins σ H s a Dn I air ⟨τ,M,Dd,A,h,k1,k2,k3,k4⟩
 | true =>
  rw [if_pos rfl] at h
  refine codeAny_handlers_suite_as (air.aeJ ?_)
  refine nL (X:=X.gm a) (i:=i) (v:=.ref a) (I.gm a) hN hi (.inl hl) rfl (λ s2 J=>?_) (.inr hl)
  have gone:∀ {σ3:St} {H3:Hp} {s3:Shared} {Q:Unit->Shared->Prop},Inv (X.gm a) pins σ3 H3 s3->(∀ s4,Inv X pins (List.replicate σ3.length none) H3 s4->Q () s4)->wpAny (model X.prog X.w) X.A (do bindName X.env n .none; unbindBehindTheSuite X.env n hpos) Q X.xe s3:=λ {σ3 H3 s3 Q} J3 q=>by
   obtain ⟨m,hn,_⟩:=J3.loc
   refine wpAny_nameGoes hl hn (by rw [hk]; rfl) λ h' m' hn' sb=>q _ ((J3.uncaught I.ok).gone hn' sb)
  have ab2:=A.set i (v:=.ref a) (w:=.m a) rfl
  refine wpAny_mono (hsu a pins s2 _ H { nx:=λ σ2 H2=>Dn.nx (List.replicate σ2.length none) H2,rt:=Dn.rt,bk:=λ σ2 H2=>Dn.bk (List.replicate σ2.length none) H2,ct:=λ σ2 H2=>Dn.ct (List.replicate σ2.length none) H2 } J ⟨_,M,_,ab2,h,λ σ2 H2 τ2 M2 kp A2 q=>?_,λ v H2 w M2 kp r m q=>k2 v H2 w M2 kp r m q,λ σ2 H2 τ2 M2 kp A2 q=>?_,λ σ2 H2 τ2 M2 kp A2 q=>?_⟩) (λ f s3 q=>?_) λ _ _ z=>z.elim
  ·exact k1 _ H2 _ M2 kp A2.forget q
  ·exact k3 _ H2 _ M2 kp A2.forget q
  ·exact k4 _ H2 _ M2 kp A2.forget q
  ·cases f with
   | next=>obtain ⟨σ3,H3,J3,q⟩:=q; exact gone J3 λ s4 J4=>⟨_,H3,J4,q⟩
   | brk=>obtain ⟨σ3,H3,J3,q⟩:=q; exact gone J3 λ s4 J4=>⟨_,H3,J4,q⟩
   | cont=>obtain ⟨σ3,H3,J3,q⟩:=q; exact gone J3 λ s4 J4=>⟨_,H3,J4,q⟩
   | ret u=>obtain ⟨v,σ3,H3,J3,r,q⟩:=q; exact gone J3 λ s4 J4=>⟨v,_,H3,J4,r,q⟩
end
end D
namespace D
open PySem PySem.Spec PyProof.Rows L2 XO
section
variable {X:Cx}{pos p:Pos}{o ce:Expr}{td:TD}{f:Str}
theorem aah {pins:List (Addr×Obj)}{σ:St}{H:Hp}{s:Shared}{M:MH}{a C:Addr}{fs:List (Str×W)}(I:Inv X pins σ H s)(m:cm X.K H M)(e:M a=some (.exc C fs)) :
  (∃ ox od,PySem.W.InstAt s.heap a ox C od)/\(∀ w,fs.lookup f=some w->∃ v u ox od,az X.K H w v/\RelV v u/\PySem.W.InstAt s.heap a ox C (some od)/\PySem.W.lookIn f od=some (some u)):=by
 obtain ⟨φ,dct,e1,e2,e3⟩:=m a _ e
 obtain ⟨vs,hx⟩:=e2 s.heap (I.hok a _ e1).1
 rcases e3 with ⟨rfl,rfl⟩ | ⟨dx,o,l,rfl,e4,pr⟩
 ·exact ⟨⟨_,none,hx,rfl,rfl,True.intro⟩,λ w z=>nomatch z⟩
 ·obtain ⟨ho,mA,n1,r1⟩:=I.hok dx _ e4
  refine ⟨⟨_,some o,hx,rfl,rfl,ho⟩,λ w z=>?_⟩
  have g:=dA f pr
  rw [z] at g
  obtain ⟨v,eb,rb⟩:=OR.some_of g
  obtain ⟨u,hu,ru⟩:=nk.some_of (v:=v) (o:=mA f) (by rw [<- eb]; exact r1 f)
  obtain ⟨od,g1,g2⟩:=p5 n1
  exact ⟨v,u,_,od,rb,ru,⟨hx,rfl,rfl,g1⟩,by rw [g2,hu]⟩
def abJ (cs:List Addr)(td:TD)(f:Str)(τ:DS)(M:MH)(Q:QD):Prop:=td τ M λ w M1=>∃ a C fs v,w=.m a/\M1 a=some (.exc C fs)/\C∈cs/\fs.lookup f=some v/\Q v M1
theorem rO {cs:List Addr}(hc:∀ C∈cs,XC X.K C/\cy X.K C f)(he:PD X o td)(hb:attributeBase o f X.env (eval o X.env)=eval o X.env:=by rfl):PD X (.Attribute o f pos) (abJ cs td f):=by
 intro pins s σ H Q I h
 obtain ⟨τ,M,Qd,A,h,k⟩:=h
 refine vz hb (thn (he pins s σ H (λ x H1=>∃ w M1,Kp H H1/\az X.K H1 w x/\cm X.K H1 M1/\∃ a C fs v,w=.m a/\M1 a=some (.exc C fs)/\C∈cs/\fs.lookup f=some v/\Qd v M1) I ⟨τ,M,_,A,h,λ v H1 w M1 kp r m q=>⟨w,M1,kp,r,m,q⟩⟩)
  λ u s1 ⟨x,H1,I1,rx,w,M1,kp,r1,m1,a,C,fs,v,ew,hma,hC,hl,q⟩=>?_)
 subst ew
 cases (show x=.ref a from r1)
 obtain rfl:u=Value.ref a:=rx
 obtain ⟨v',u',ox,od,rv,ru,J,lo⟩:=(aah (f:=f) I1 m1 hma).2 v hl
 obtain ⟨xc,na⟩:=hc C hC
 obtain ⟨cd,hcd,hd,_⟩:=fh xc.x
 refine ahc I1.kIn xc J (PySem.W.findObj_own (by unfold PySem.W.hasDictIn; rw [hcd]; exact hd) na rfl lo) (pK ru) ?_
 exact ⟨v',H1,I1.tok _,ru,k v' H1 v M1 kp rv m1 q⟩
def acO:V->Value
 | .ref a=>.ref a
 | .ty n=>.type n
 | _=>.none
def va:V->Bool
 | .ref _=>true
 | .ty _=>true
 | _=>false
theorem wx:∀ {v:V} {u:Value},va v=true->RelV v u->u=acO v
 | .ref _,_,_,r=>r
 | .ty _,_,_,r=>r
 | .non,_,h,_=>nomatch h
 | .bl _,_,h,_=>nomatch h
 | .int _,_,h,_=>nomatch h
 | .str _,_,h,_=>nomatch h
 | .byt _,_,h,_=>nomatch h
 | .flt _,_,h,_=>nomatch h
theorem tU:∀ {cs:List V} {us:List Value},(∀ c∈cs,va c=true)->Vals cs us->us=cs.map acO
 | _,_,_,.nil=>rfl
 | _,_,h,.cons r t=>by rw [wx (h _ (by simp)) r,tU (λ c hc=>h c (by simp [hc])) t]; rfl
def IsC (H:Hp)(v:V)(cs:List V):Prop:=cs=[v]\/∃ t,v=.ref t/\H t=some (.tup cs)
def ag3 (K:PySem.W.Frag)(xs:List V)(H:Hp)(Q:VK):Prop:=∃ a C c cs b M fs,xs=[.ref a,c]/\cm K H M/\M a=some (.exc C fs)/\IsC H c cs/\(∀ c∈cs,va c=true)/\XC K C/\PySem.W.kitAny K (.ref C) (cs.map acO)=some b/\Q (.bl b) H
theorem zb:dY X (.builtin "isinstance") (ag3 X.K):=by
 intro pins s σ H xs us Q I r h
 obtain ⟨a,C,c,cs,b,M,fs,rfl,m,e,hc,hcs,xc,kb,q⟩:=h
 obtain ⟨u,w,rfl,r1,r2⟩:=vals2 r
 cases (show u=Value.ref a from r1)
 obtain ⟨⟨ox,od,J⟩,_⟩:=aah (f := "") I m e
 have fin:∀ tk,EP X pins σ Q (.bool b) { s with toks:=tk }:=λ tk=>⟨.bl _,H,I.tok _,rfl,q⟩
 rcases hc with rfl | ⟨t,rfl,ht⟩
 ·have e1:=wx (hcs c (by simp)) r2
  subst e1
  have e2:PySem.W.kitOne X.K (.ref C) (acO c)=some b:=by
   simp only [List.map_cons,List.map_nil,PySem.W.kitAny] at kb
   split at kb
   ·rename_i z; rw [z,kb]
   ·rename_i z; rw [z,kb]
   ·cases kb
  exact PySem.W.kia_one (zX xc) I.kIn J e2 (λ z=>nomatch z) fin
 ·cases (show w=Value.ref t from r2)
  obtain ⟨_,its,rv,⟨o,g1,g2,_,n,g3⟩⟩:=I.hok t _ ht
  have e1:=tU hcs rv
  subst e1
  obtain ⟨c1,c2,c3,c4⟩:=o
  cases g2
  cases g3
  exact PySem.W.kia_tup (zX xc) I.kIn J g1 kb (λ z=>nomatch z) fin
def abP (tab:Addr->Option Bool)(td:TD)(τ:DS)(M:MH)(Q:QD):Prop:=td τ M λ w M1=>∃ a C fs b,w=.m a/\M1 a=some (.exc C fs)/\tab C=some b/\Q (.d (.bool b)) M1
def CTm (cs:List V)(tc:TE):Prop:=∀ σ H (Q:VK),(∀ v H',(∀ b u,H b=some u->H' b=some u)->IsC H' v cs->Q v H')->tc σ H Q
theorem xr (v:V):CTm [v] (tC v):=λ σ H Q h=>h v H (λ _ _ z=>z) (.inl rfl)
theorem abM {t:TA}{cs:List V}(h:∀ σ H (Q:List V->Hp->Prop),Q cs H->t σ H Q)(hz:cs.length<=1000):CTm cs (agO t):=λ σ H Q k=>h σ H _ ⟨by have:=s16; omega,λ p hp=>k (.ref p) _ (λ b u z=>by rw [ao (aL z hp)]; exact z) (.inr ⟨p,rfl,au⟩)⟩
theorem xH {cs:List V}{tc:TE}{tab:Addr->Option Bool}(ht:∀ C b,tab C=some b->XC X.K C/\PySem.W.kitAny X.K (.ref C) (cs.map acO)=some b)(hcs:(cs.all va)=true)(hg:Gl X "isinstance")(hm:X.mg "isinstance" = none)(ho:PD X o td)(hc:PE X ce tc)(ct:CTm cs tc)
  (h1:df o=false:=by rfl)(h2:df ce=false:=by rfl):PD X (.Call (.Name "isinstance" p) [o,ce] [] pos) (abP tab td):=by
 refine eO (jl zb hg hm bF (gF ho (gF hc lE (bK ce [] X.env h2)) (bK o [ce] X.env h1)) (by decide) (by decide) (bK o [ce] X.env h1) (cE pos X.env [ce] (by simp [h2]))) λ σ H Q h=>?_
 obtain ⟨τ,M,Qd,A,h,k⟩:=h
 refine ⟨τ,M,_,A,h,λ v H1 w M1 kp r m hq105=>?_⟩
 obtain ⟨a,C,fs,b,ew,hma,htb,q⟩:=hq105
 subst ew
 cases (show v=.ref a from r)
 refine ct σ H1 _ λ c H2 st ic=>?_
 obtain ⟨xc,kb⟩:=ht C b htb
 have kp2:Kp H1 H2:=⟨λ b xs z=>st b _ z,λ b o u z=>st b _ z⟩
 have m2:cm X.K H2 M1:=λ b mo z=>(m b mo z).keep kp2 λ u y=>st b u y
 exact ⟨a,C,c,cs,b,M1,fs,rfl,m2,hma,ic,λ c hc=>List.all_eq_true.mp hcs c hc,xc,kb,k (.bl b) H2 (.d (.bool b)) M1 (kp.trans kp2) rfl m2 q⟩
end
theorem nZ:bootBuiltins "ValueError" = some (.type "ValueError"):=by decide +kernel
end D
namespace D
open PySem PySem.Spec PyProof.Rows L2 XO
structure Xi (K:PySem.W.Frag)(C:Addr)(qual:Str)(st:Stmt)(ps:List Str)(f:Addr)(fd:FuncData):Prop where
 fn:Fun K "__init__" qual st f fd
 xm:Xm K C f
 bd:L2.Binds K fd ps []
theorem agl {K:PySem.W.Frag}{C:Addr}{qual:Str}{st:Stmt}{ps:List Str}{f:Addr}{oc:Value}{od an:Option Addr}{osl:Array (Option Value)}{kV doc pm cdv ct:Value}(xc:XC K C)(a:PySem.W.findIn K (.ref C) "__init__" = some (some (.ref f)))(i:PySem.W.typeIn K (.ref f)=some (.type "function"))
  (l:K.lookup f=some ⟨oc,od,.func (PySem.W.fnOf "__init__" qual (aN st) (aE st) (ai st) .none kV doc pm an cdv ct),osl⟩)(c:PySem.W.codeIn K cdv qual=true)(k:PySem.W.keepIn K (.ref f)=true)(m:xmk K C=true)(ty:PySem.W.typeIn K (.ref C)=some (.type "type"))(kc:PySem.W.keepIn K (.ref C)=true)
  (b:∀ (kV doc pm:Value) (an:Option Addr) (cdv ct:Value) (us:List Value),us.length=ps.length->bindArgs (PySem.W.fnOf "__init__" qual (aN st) (aE st) (ai st) .none kV doc pm an cdv ct) ⟨us,[]⟩=pure (ps.zip us)) :
  Xi K C qual st ps f (PySem.W.fnOf "__init__" qual (aN st) (aE st) (ai st) .none kV doc pm an cdv ct) :=
 have F:=yo (st:=st) l c k
 ⟨F,⟨xc,m,ty,a,i,kc⟩,F.binds b⟩
def yu (l:List (Addr×Bool))(C:Addr):Option Bool:=l.lookup C
inductive pX (P:Addr->Bool->Prop):List (Addr×Bool)->Prop
 | nil:pX P []
 | cons {a:Addr} {b:Bool} {l:List (Addr×Bool)}:P a b->pX P l->pX P ((a,b) :: l)
theorem pX.of {P:Addr->Bool->Prop}{l:List (Addr×Bool)}(h:pX P l):∀ C b,yu l C=some b->P C b:=by
 induction h with
 | nil=>intro C b z; cases z
 | @cons a b l p _ ih =>
  intro C b' z
  unfold yu at z ih
  rw [List.lookup_cons] at z
  split at z
  ·rename_i e
   cases z
   rw [beq_iff_eq.mp e]; exact p
  ·exact ih C b' z
inductive aaB (P:Addr->Prop):List Addr->Prop
 | nil:aaB P []
 | cons {a:Addr} {l:List Addr}:P a->aaB P l->aaB P (a :: l)
theorem aaB.of {P:Addr->Prop}{l:List Addr}(h:aaB P l):∀ C∈l,P C:=by
 induction h with
 | nil=>intro C z; cases z
 | cons p _ ih =>
  intro C z
  rcases List.mem_cons.mp z with e | e
  ·rw [e]; exact p
  ·exact ih C e
def PCs (X:Cx)(es:List Expr)(cs:List V):Prop:=(∃ t,PA X es t/\∀ σ H (Q:List V->Hp->Prop),Q cs H->t σ H Q)/\(cs.all va)=true
theorem acb {X:Cx}:PCs X [] []:=⟨⟨_,lE,λ σ H Q q=>q⟩,rfl⟩
theorem sZ {X:Cx}{x:Str}{C:Addr}{es:List Expr}{cs:List V}{p:Pos}(hg:Gl X x)(hm:X.mg x=some (.ref C))(r:PCs X es cs)(hd:(x == ("__debug__" : Str))=false:=by decide):PCs X (.Name x p :: es) (.ref C :: cs):=by
 obtain ⟨⟨t,h1,h2⟩,h3⟩:=r
 exact ⟨⟨_,gF (rF (v:=.ref C) hg hm rfl hd) h1,λ σ H Q q=>h2 σ H _ q⟩,by rw [List.all_cons,h3]; rfl⟩
namespace Q
section
variable {X:Cx}{pos p p' apos cpos np hpos:Pos}{k:Nat}{f C:Addr}{fd:FuncData}{ps fs:List Str}{sp:SpX}{x m n:Str}{e o:Expr}{es:List Expr}{t:TAd}{td:TD}{E:XE}
theorem pmX {pl:Sem Bool}(L:Lk X E)(he:Jd (PD X o td))(c:Cls X.K C)(hm:Meth X.K C m f)(F:bV X.prog X.w X.K X.mg X.base (CXE X.prog X.w) k f fd ps (pU X.K sp))(hr:cG k X.A)(hb:L2.Binds X.K fd ps [])(ha:Jd (PAd X (e :: es) t))
  (ht:eval (.Call (.Attribute o m apos) (e :: es) [] pos) X.env=(do
   let ov <- eval o X.env
   standAt apos.atName
   let (f,first) <- holding [ov] (getMethod ov m pl)
   callWith pos f first (backTo pos (starEach (e :: es) X.env)) (backToKw pos (keywordEach [] X.env))):=by rfl)
  (h1:df e=false:=by rfl)(h2:(es.all λ e=>!df e)=true:=by rfl):Jd (PD X (.Call (.Attribute o m apos) (e :: es) [] pos) (pS C m sp E td t)):=⟨D.zf L he.h c hm F hr hb ha.h ht h1 h2⟩
theorem jt (L:Lk X E)(c:Xm X.K C f)(F:bV X.prog X.w X.K X.mg X.base CX0 k f fd ps (xI C fs))(hr:cG (k+1) X.A)(hg:Gl X x)(hm:X.mg x=some (.ref C))(hb:L2.Binds X.K fd ps [])(ha:Jd (PAd X (e :: es) t))
  (hdb:(x == ("__debug__" : Str))=false:=by decide)(h1:df e=false:=by rfl)(h2:(es.all λ e=>!df e)=true:=by rfl):Jd (PSd X (.Raise (some (.Call (.Name x p) (e :: es) [] cpos)) none pos) (v5 C fs E t)):=⟨D.jt L c F hr hg hm hb ha.h hdb h1 h2⟩
variable {body suite:List Stmt}{b0:Stmt}{hs:List ExceptHandler}{h0:ExceptHandler}{tb:XE->TSd}{th rest:Addr->TSd}{ts:TSd}
theorem qh (hst:X.stack=X.env :: X.outer)(hf:X.env.frame=some X.env.locals)
  (hb:∀ (H0:Hp) (pn:List (Addr×Obj)) (xe:Value->Shared->Prop) (E:XE),Lk (X.lz H0 pn xe) E->PassesOwn (model X.prog X.w) X.A X.env xe->Jd (kG (X.lz H0 pn xe) body (tb E)))(hh:Jd (PHd X (h0 :: hs) th)):Jd (PSd X (.Try body (h0 :: hs) [] [] pos) (afJ tb th)) :=
 ⟨D.qh hst hf (λ H0 pn xe E l p=>(hb H0 pn xe E l p).h) hh.h⟩
theorem rN:Jd (PHd X hs (λ _ _ _ _=>False)):=⟨D.rN⟩
theorem abX {i:Nat}{Dc:Addr}{l:List (Addr×Bool)}(hg:Gl X x)(hm:X.mg x=some (.ref Dc))(ht:pX (λ C b=>PySem.W.exmOne X.K (.ref C) (.ref Dc)=some b) l)(hN:X.N.Nodup)(hi:X.N[i]? = some n)(hl:X.env.scope.names.lookup n=some .local)(hk:X.env.scope.kind=.function)
  (hsu:∀ a,Jd (kG (X.gm a) (b0 :: suite) ts))(hr:Jd (PHd X hs rest))(hdb:(x == ("__debug__" : Str))=false:=by decide):Jd (PHd X (.ExceptHandler (some (.Name x np)) (some n) (b0 :: suite) hpos :: hs) (aba (yu l) i ts rest)) :=
 ⟨D.abX hg hm ht.of hN hi hl hk (λ a=>(hsu a).h) hr.h hdb⟩
theorem rO {f:Str}{cs:List Addr}(hc:aaB (λ C=>XC X.K C/\cy X.K C f) cs)(he:Jd (PD X o td))(hb:attributeBase o f X.env (eval o X.env)=eval o X.env:=by rfl):Jd (PD X (.Attribute o f pos) (abJ cs td f)):=⟨D.rO hc.of he.h hb⟩
theorem abW {Dc:Addr}{l:List (Addr×Bool)}(hm:X.mg "isinstance" = none)(ht:pX (λ C b=>XC X.K C/\PySem.W.kitAny X.K (.ref C) [.ref Dc]=some b) l)(hg:Gl X x)(hx:X.mg x=some (.ref Dc))(ho:Jd (PD X o td))(hgi:Gl X "isinstance" := by rfl)
  (hdb:(x == ("__debug__" : Str))=false:=by decide)(h1:df o=false:=by rfl):Jd (PD X (.Call (.Name "isinstance" p) [o,.Name x p'] [] pos) (abP (yu l) td)) :=
 ⟨D.xH (cs:=[.ref Dc]) ht.of rfl hgi hm ho.h (rF (v:=.ref Dc) hg hx rfl hdb) (xr _) h1 rfl⟩
theorem ab1 {T:String}{l:List (Addr×Bool)}(hm:X.mg "isinstance" = none)(ht:pX (λ C b=>XC X.K C/\PySem.W.kitAny X.K (.ref C) [.type T]=some b) l)(hg:Gl X x)(hx:X.mg x=none)(hv:bootBuiltins x=some (.type T))(ho:Jd (PD X o td))(hgi:Gl X "isinstance" := by rfl)
  (hn:x ≠ "__name__" := by decide)(hdb:(x == ("__debug__" : Str))=false:=by decide)(h1:df o=false:=by rfl):Jd (PD X (.Call (.Name "isinstance" p) [o,.Name x p'] [] pos) (abP (yu l) td)) :=
 ⟨D.xH (cs:=[.ty T]) ht.of rfl hgi hm ho.h (yj (v:=.ty T) hg hx hv rfl hn hdb) (xr _) h1 rfl⟩
theorem abz {cs:List V}{l:List (Addr×Bool)}{x1}(hm:X.mg "isinstance" = none)(ht:pX (λ C b=>XC X.K C/\PySem.W.kitAny X.K (.ref C) (cs.map acO)=some b) l)(hc:PCs X es cs)(ho:Jd (PD X o td))(hz:cs.length<=1000:=by decide)(hgi:Gl X "isinstance" := by rfl)
  (h1:df o=false:=by rfl):Jd (PD X (.Call (.Name "isinstance" p) [o,.Tuple es x1 p'] [] pos) (abP (yu l) td)):=by
 obtain ⟨⟨t,g1,g2⟩,g3⟩:=hc
 exact ⟨D.xH (cs:=cs) ht.of g3 hgi hm ho.h (zY g1) (abM g2 hz) h1 rfl⟩
end
end Q
end D
namespace D
open PySem PySem.Spec PyProof.Rows L2
section
variable {X:Cx}{K:PySem.W.Frag}
end
section
variable {X:Cx}{K:PySem.W.Frag}
def acP (d:PyData)(ds:List PyData):Bool:=kK d && kK (.list ds)
theorem abZ {A:Around}{k:Nat}(hr:mj k A){d:PyData}{ds:List PyData}(h:SeqAt.shaped d=true):A.units+1+min (PyData.depthAll ds) d.depth < cLine:=by
 have h1:=SeqAt.depth_of_shaped h
 have h2:min (PyData.depthAll ds) d.depth<=d.depth:=Nat.min_le_right _ _
 have:=hr.un
 omega
variable {o e:Expr}{td te:TD}{apos cpos:Pos}
end
namespace Q
section
variable {X:Cx}{o e tg:Expr}{td te:TD}{apos cpos:Pos}
end
end Q
end D
namespace D
open PySem PySem.Spec PyProof.Rows L2
section
variable {X:Cx}{tg o:Expr}
end
section
variable {X:Cx}
def afu (te:TD)(tl th:TOd)(τ:DS)(M:MH)(Q:QD):Prop:=te τ M λ w M1=>tl τ M1 λ lo M2=>th τ M2 λ hi M3=>∃ a ws,w=.m a/\M3 a=some (.lst ws)/\∀ p,M3 p=none->Q (.m p) (aK M3 p (.lst (cutD ws lo hi)))
theorem aJ.cut {K:PySem.W.Frag}{H:Hp}{ws:List W}{vs:List V}(r:aJ K H ws vs)(lo hi:Option Int):aJ K H (cutD ws lo hi) (xl vs lo hi):=by
 unfold cutD xl
 have hl:=r.length
 rw [hl]
 have dr:∀ (n:Nat) {ws:List W} {vs:List V},aJ K H ws vs->aJ K H (ws.drop n) (vs.drop n):=by
  intro n
  induction n with
  | zero=>intro ws vs h; exact h
  | succ n ih =>
   intro ws vs h
   cases h with
   | nil=>exact .nil
   | cons a b=>exact ih b
 have tk:∀ (n:Nat) {ws:List W} {vs:List V},aJ K H ws vs->aJ K H (ws.take n) (vs.take n):=by
  intro n
  induction n with
  | zero=>intro ws vs h; exact .nil
  | succ n ih =>
   intro ws vs h
   cases h with
   | nil=>exact .nil
   | cons a b=>exact .cons a (ih b)
 exact tk _ (dr _ r)
theorem uQ {e:Expr}{te:TD}{lo hi:Option Expr}{tl th:TOd}{pos p2:Pos}(he:PD X e te)(hl:POd X lo tl)(hu:POd X hi th):PD X (.Subscript e (.Slice lo hi none p2) pos) (afu te tl th) :=
 eO (tE vg he hl hu) λ σ H Q h=>by
  obtain ⟨τ,M,Qd,A,h,k⟩:=h
  refine ⟨τ,M,_,A,h,λ x H1 w M1 kp1 r1 m1 q1=>⟨τ,M1,_,A.go kp1 m1,q1,λ lo' H2 M2 kp2 m2 q2=>⟨τ,M2,_,A.go (kp1.trans kp2) m2,q2,λ hi' H3 M3 kp3 m3 hq106=>?_⟩⟩⟩
  obtain ⟨a,ws,ew,hm,q3⟩:=hq106
  subst ew
  obtain ⟨vs,e,ra⟩:=m3 _ _ hm
  refine ⟨a,vs,r1,.of e,λ p hp=>?_⟩
  have kp4:Kp H3 (upd H3 p (.lst (xl vs lo' hi'))):=Kp.new hp
  exact k _ _ (.m p) _ (((kp1.trans kp2).trans kp3).trans kp4) rfl (m3.put (mo:=.lst (cutD ws lo' hi')) kp4 ⟨_,au,aJ.keep kp4 (aJ.cut ra lo' hi')⟩) (q3 p (m3.free hp))
end
section
variable {X:Cx}{pos:Pos}
end
namespace Q
section
variable {X:Cx}{tg o:Expr}{td:TD}
theorem vk {e:Expr}{te:TD}{lo hi:Option Expr}{tl th:TOd}{pos p2:Pos}(he:Jd (PD X e te))(hl:Jd (POd X lo tl))(hu:Jd (POd X hi th)):Jd (PD X (.Subscript e (.Slice lo hi none p2) pos) (afu te tl th)):=⟨D.uQ he.h hl.h hu.h⟩
end
end Q
end D
namespace D
open PySem PySem.Spec PyProof.Rows L2
def xK (v:Value):PyData->Bool
 | .str z=>match v with
  | .str x _=>decide (x=z)
  | _=>false
 | .int i=>match v with
  | .int j _=>decide (j=i)
  | _=>false
 | _=>false
def tR:List Value->List PyData->Bool
 | [],[]=>true
 | v :: vs,d :: ds=>xK v d && tR vs ds
 | _,_=>false
def af4 (K:PySem.W.Frag)(v:Value):PyData->Bool
 | .tuple ds=>match v with
  | .ref a=>match K.lookup a with
   | some o=>(match o.cls with
    | .type n=>decide (n = "tuple")
    | _=>false) && o.dict.isNone && (match o.data with
    | .seq its _=>decide (its.size<=100) && tR its.toList ds
    | _=>false)
   | none=>false
  | _=>false
 | d=>xK v d
def v8 (K:PySem.W.Frag):List DictEntry->List (Str×PyData)->Bool
 | [],[]=>true
 | e :: es,(k,d) :: kvs=>xK e.key (.str k) && af4 K e.val d && v8 K es kvs
 | _,_=>false
def aht (K:PySem.W.Frag)(a:Addr)(kvs:List (Str×PyData)):Bool:=match K.lookup a with
 | some o=>(match o.cls with
  | .type n=>decide (n = "dict")
  | _=>false) && o.dict.isNone && decide (o.slots.size=0) && (match o.data with
  | .dict es _=>v8 K es.toList kvs
  | _=>false)
 | none=>false
def hashesOf (K:PySem.W.Frag)(a:Addr):Option (List Int):=match K.lookup a with
 | some o=>match o.data with
  | .dict es _=>some (es.toList.map (·.hash))
  | _=>none
 | none=>none
structure ahg (w:World)(K:PySem.W.Frag)(a:Addr)(kvs:List (Str×PyData)):Prop where
 is:aht K a kvs=true
 hs:hashesOf K a=some (kvs.map λ p=>PyData.keyHash w.params p.1)
 nd:(kvs.map (·.1)).Nodup
 ns:(a == sysModules)=false
section
variable {X:Cx}{pins:List (Addr×Obj)}{σ:St}{H:Hp}{s:Shared}{a:Addr}{kvs:List (Str×PyData)}
end
section
variable {X:Cx}{e:Expr}{a:Addr}{x:Str}{kvs:List (Str×PyData)}{pos p apos cpos:Pos}{ty:TE}{te:TD}
end
namespace Q
section
variable {X:Cx}{e:Expr}{a:Addr}{x:Str}{kvs:List (Str×PyData)}{pos p apos cpos:Pos}{te:TD}
end
end Q
end D
namespace D
open PySem PySem.Spec PyProof.Rows L2
section
variable {X:Cx}
def afO:V->List V->Hp->VK->Prop:=λ x vs H Q=>∃ a c kvs more,x=.ref a/\vs=[.ref c]/\H a=some (.dK kvs)/\Rd H c (.dK more)/\a≠c/\kvs.length+more.length<=sizeLine/\Q .non (upd H a (.dK (fu kvs more)))
theorem acm:MtM X "dict.update" afO:=by
 intro pins s σ H x vs v us Q I rx rv h
 obtain ⟨a,c,kvs,more,rfl,rfl,ha,hc,ne,hz,q⟩:=h
 cases rx
 obtain ⟨u,rfl,ru⟩:=rv.one
 cases ru
 obtain ⟨_,hd,ws,rel,dd⟩:=yK I.hok ha
 obtain ⟨_,hd2,ws2,rel2,dd2⟩:=vW I.hok hc
 refine call_meetsIn PySem.F.slot_dict_update dd.typeIs PySem.F.entry_dict_update (PySem.F.args_dict_update_2 _ _) (meets_dict_update (aX X.prog X.w) a c ne hd2) ⟨ws,ws2,dd,dd2,by rw [<- rel.length,<- rel2.length]; exact hz,λ h' dd' _ sb=>?_⟩
 have hl:=eZ more kvs
 have he:∃ q,h'.get? a=some q:=let ⟨q,_,_,hq,_⟩:=dd'; ⟨q,hq⟩
 exact ⟨.non,_,jT (t':=s.toks) I (by rw [ha]; exact True.intro) sb he (tj (by omega) hd (KV.merge rel2 rel) dd'),rfl,q⟩
variable {o e:Expr}{td te:TD}{apos cpos:Pos}
end
namespace Q
section
variable {X:Cx}{o e:Expr}{td te:TD}{apos cpos:Pos}
end
end Q
end D
namespace PySem.SeqAt
open AutoSeq1 (wpAny_loadPart')
open MeetsSeq MeetsSeq2 MeetsSeq3 SeqRoads2
end PySem.SeqAt
namespace ZT
open PySem PySem.Spec PyProof.Rows
section
variable {prog:Program}{w:World}{A:Around}{E:Value->Shared->Prop}{s:Shared}
abbrev TT (h:Heap)(j t:Addr)(k:Nat)(ys:Array Value):Prop:=h.IsTupleIter j t k/\h.IsTuple t ys
def isIt (b:Bool)(h:Heap)(j t:Addr)(k:Nat):Prop:=match b with
 | true=>h.IsTupleIter j t k
 | false=>h.IsListIter j t k
def ahi (b:Bool)(h:Heap)(t:Addr)(ys:Array Value):Prop:=match b with
 | true=>h.IsTuple t ys
 | false=>h.IsList t ys
abbrev TI (b:Bool)(h:Heap)(j t:Addr)(k:Nat)(ys:Array Value):Prop:=isIt b h j t k/\ahi b h t ys
variable {p₁ p₂:Bool}{z T O i j a b:Addr}{k:Nat}{xs ys:Array Value}{u v:Value}
end
end ZT
namespace ZT
open PySem PySem.Spec PyProof.Rows
section
variable {prog:Program}{w:World}{A:Around}{E:Value->Shared->Prop}{s:Shared}
end
end ZT
namespace D
open PySem PySem.Spec PyProof.Rows L2
section
variable {X:Cx}{a b:Expr}{p pos:Pos}{ta:TA}
end
section
variable {X:Cx}{K:PySem.W.Frag}{a b:Expr}{p pos:Pos}{t:TAd}
end
section
variable {X:Cx}{K:PySem.W.Frag}
def abm (ds:List PyData)(d:PyData)(j:Nat):Prop:=j < ds.length/\(∀ y,ds[j]? = some y->PyData.eqv y d=true)/\∀ m y,m < j->ds[m]? = some y->PyData.eqv y d=false
variable {o e:Expr}{td te:TD}{apos cpos:Pos}
end
namespace Q
section
variable {X:Cx}{o e a b:Expr}{td te:TD}{apos cpos p pos:Pos}
end
end Q
end D
namespace D
open PySem PySem.Spec PyProof.Rows L2
section
variable {X:Cx}{K:PySem.W.Frag}
end
section
variable {prog:Program}{w:World}{A:Around}{E:Value->Shared->Prop}{s:Shared}{x y:Str}{t u:Tok}{Q:Value->Shared->Prop}
end
section
variable {X:Cx}{K:PySem.W.Frag}
variable {o e:Expr}{td te:TD}{apos cpos:Pos}
end
section
variable {X:Cx}{e st:Expr}{te:TE}{ts:TO}{pos p2:Pos}
end
section
variable {X:Cx}{K:PySem.W.Frag}{e st:Expr}{te:TD}{ts:TOd}{pos p2:Pos}
end
section
variable {X:Cx}{e:Expr}{a:Addr}{x:Str}{kvs:List (Str×PyData)}{pos p:Pos}{ty:TE}{te:TD}
end
namespace Q
section
variable {X:Cx}{e st:Expr}{a:Addr}{x:Str}{kvs:List (Str×PyData)}{pos p p2:Pos}{te:TD}{ts:TOd}
end
end Q
namespace Q
section
variable {X:Cx}{o e:Expr}{td te:TD}{apos cpos:Pos}
end
end Q
end D
namespace XO
open PySem PySem.Spec PyProof.Rows PySem.W
section
variable {prog:Program}{w:World}{A:Around}{E:Value->Shared->Prop}{K:Frag}{C:Addr}{h:Heap}{g:Array GenState}{d:Drawn}{t:Nat}{os:OsState}
end
end XO
namespace D
open PySem PySem.Spec PyProof.Rows L2 XO
section
variable {X:Cx}{pos p cpos np hpos:Pos}{k:Nat}{f C:Addr}{x:Str}{e:Expr}{es:List Expr}{t:TAd}{E:XE}
variable {body suite:List Stmt}{b0:Stmt}{hs:List ExceptHandler}{th rest:Addr->TSd}{ts:TSd}
variable {fd:FuncData}{ps:List Str}{sp:SpX}{y:Str}{td:TD}
end
section
variable {X:Cx}{K:PySem.W.Frag}
variable {o e:Expr}{td te:TD}{apos cpos:Pos}
end
section
variable {X:Cx}{o e:Expr}{td te:TD}{apos cpos:Pos}
end
section
variable {X:Cx}{e st:Expr}{te:TE}{ts:TO}{pos p2:Pos}
end
section
variable {X:Cx}{e st:Expr}{te:TD}{ts:TOd}{pos p2:Pos}
end
section
variable {X:Cx}{K:PySem.W.Frag}
end
namespace Q
section
variable {X:Cx}{pos p cpos apos np hpos p2:Pos}{k:Nat}{f C:Addr}{x y:Str}{e o st:Expr}{es:List Expr}{t:TAd}{E:XE}{body suite:List Stmt}{b0:Stmt}{hs:List ExceptHandler}{rest:Addr->TSd}{ts:TSd}{fd:FuncData}{ps:List Str}{sp:SpX}{td te:TD}{to:TOd}
end
end Q
end D
namespace ZS
open PySem PySem.Spec PyProof.Rows
section
variable {prog:Program}{w:World}{A:Around}{E:Value->Shared->Prop}{s:Shared}
variable {z T O i j b:Addr}{k:Nat}{x:Str}{tk:Tok}{ys:Array Value}{u v:Value}
end
section
variable {prog:Program}{w:World}{A:Around}{E:Value->Shared->Prop}{s:Shared}
end
end ZS
namespace D
open PySem PySem.Spec PyProof.Rows L2
section
variable {X:Cx}{a b:Expr}{p pos:Pos}{ta:TA}
end
section
variable {X:Cx}{K:PySem.W.Frag}{a b:Expr}{p pos:Pos}{t:TAd}
end
section
variable {X:Cx}{K:PySem.W.Frag}
end
namespace Q
section
variable {X:Cx}{o e:Expr}{td te:TD}{apos cpos:Pos}
end
end Q
namespace Q
section
variable {X:Cx}{a b:Expr}{p pos:Pos}
end
end Q
end D
namespace RT
open PySem PySem.Spec PyProof.Rows
section
variable {prog:Program}{w:World}{A:Around}{E:Value->Shared->Prop}{s:Shared}
end
end RT
namespace D
open PySem PySem.Spec PyProof.Rows L2
section
variable {X:Cx}{pins:List (Addr×Obj)}{σ:St}{H:Hp}{s:Shared}
end
section
variable {X:Cx}
end
section
variable {X:Cx}{K:PySem.W.Frag}
variable {o e:Expr}{td:TD}{apos cpos:Pos}
variable {a:Expr}{ta:TA}{p p2 pos pos2:Pos}
end
namespace Q
section
variable {X:Cx}{k:Nat}{t:TAd}{td:TD}{a o e:Expr}{p p2 pos pos2 apos cpos:Pos}
end
end Q
end D
namespace L2
open PySem PySem.Spec PyProof.Rows
open PySem.W (envX kla_obj kla_fn)
def yx (X:Cx)(q:Str)(sc:Scope)(N':List Str)(cl:List (Str×Addr))(f c:Addr)(s:Shared)(H:Hp)(pins:List (Addr×Obj)):Cx :=
 {X with A:=X.A.deeper (envX q sc s.heap.objs.size f (.ref c) cl),N:=N',s₀:=s,H₀:=H,env:=envX q sc s.heap.objs.size f (.ref c) cl,outer:=X.stack,stack:=envX q sc s.heap.objs.size f (.ref c) cl :: X.stack,ex:=[],fn:=λ _=>false,calm:=true,pn:=X.pn++pins,xe:=λ _ _=>False }
structure oY (X:Cx)(sc:Scope)(x:Str)(fr:List Nat):Prop where
 kind:sc.kind=.function
 co:sc.isCoroutine=false
 gen:sc.isGenerator=false
 cell:∀ y∈sc.names,y.2 ≠ .cell
 free:∀ y∈sc.names,y.2=.free->(X.env.kindOf y.1=some .cell\/X.env.kindOf y.1=some .free)
 own:sc.names.lookup x=some .local
 fr:aen X.N sc fr=true
def xD (X:Cx)(x:Str)(fr:List Nat):List Str:=x :: fr.map λ j=>X.N.getD j Str.empty
def aed (v:V)(fr:List Nat)(σ:St):St:=some v :: fr.map λ j=>(σ[j]?).getD none
section
variable {X:Cx}{pins:List (Addr×Obj)}{σ:St}{H:Hp}{s:Shared}{sc:Scope}{x q:Str}{fr:List Nat}{cl:List (Str×Addr)}{f c:Addr}
theorem aex (L:oY X sc x fr)(hc:X.calm=true)(I:Inv X pins σ H s)(c1:∀ n c,cl.lookup n=some c->X.env.cells.lookup n=some c)(c2:∀ n,(n,NameKind.free)∈sc.names->∃ c,cl.lookup n=some c):(yx X q sc (xD X x fr) cl f c s H pins).Ok where
 mod:=I.ok.mod
 kind:=L.kind
 glob:=rfl
 blt:=rfl
 above:=Nat.le_refl _
 inj:=λ x y c a b=>I.ok.inj x y c (c1 _ _ a) (c1 _ _ b)
 has:=λ y hy=>by
  have hy:sc.names.lookup y=some .cell\/sc.names.lookup y=some .free:=hy
  rcases hy with hy | hy
  ·exact absurd rfl (L.cell _ (PySem.mem_of_lookup hy))
  ·exact c2 y (PySem.mem_of_lookup hy)
 cab:=λ x c z=>absurd (show false=true from z) Bool.false_ne_true
 hd:=λ _=>I.ok.hd hc
 frames:=Around.frames_deeper I.ok.frames
 stk:=.inr ⟨rfl,rfl⟩
 exf:=λ b z=>nomatch z
 bs:=I.bs
 bsz:=Nat.le_trans I.ok.bsz I.sz
 noex:=λ b o e z=>nomatch z
 exfs:=λ b z=>nomatch z
 nN:=I.stack
 frf:=I.mZ
theorem aa8 (L:oY X sc x fr)(hc:X.calm=true)(I:Inv X pins σ H s)(c1:∀ n c,cl.lookup n=some c->X.env.cells.lookup n=some c)(c2:∀ n,(n,NameKind.free)∈sc.names->∃ c,cl.lookup n=some c)
  {h1:Heap}{tk:Nat}{v:V}{u:Value}(rv:RelV v u)(hn:h1.Ns s.heap.objs.size (λ y=>[(x,u)].reverse.lookup y))(k:∀ b o,s.heap.get? b=some o->h1.get? b=some o) :
  Inv (yx X q sc (xD X x fr) cl f c s H pins) [] (aed v fr σ) H { s with heap:=h1,toks:=tk }:=by
 have ok:=aex (q:=q) (f:=f) (c:=c) L hc I c1 c2
 refine ⟨ok,rfl,I.bare,Un.kept k,⟨_,hn,λ i y v' e1 e2 e3=>?_⟩,λ y c e=>?_,I.hok.fresh (Nat.le_refl _),λ y c e=>I.freeC y c (c1 _ _ e),λ p hp=>?_,I.hok.kept k,?_⟩
 ·cases i with
  | zero =>
   have e1':some x=some y:=e1
   have e2':some (some v)=some (some v'):=e2
   cases e1'; cases e2'
   exact ⟨u,rv,.inl ⟨L.own,by simp⟩⟩
  | succ i =>
   have e1':(fr.map λ j=>X.N.getD j Str.empty)[i]? = some y:=e1
   have e2':(fr.map λ j=>(σ[j]?).getD none)[i]? = some (some v'):=e2
   rw [List.getElem?_map] at e1' e2'
   cases hq:fr[i]? with
   | none=>rw [hq] at e1'; cases e1'
   | some j =>
    rw [hq] at e1' e2'
    obtain ⟨z,hz,hzf⟩:=sE L.fr (List.mem_of_getElem? hq)
    have ex:z=y:=by
     have:=Option.some.inj e1'
     rw [<- this]
     simp [List.getD,hz]
    subst ex
    have ev:σ[j]? = some (some v'):=by
     have z':(σ[j]?).getD none=some v':=Option.some.inj e2'
     cases w:σ[j]? with
     | none=>rw [w] at z'; cases z'
     | some o=>rw [w] at z'; exact congrArg some z'
    have hm:(z,NameKind.free)∈sc.names:=PySem.mem_of_lookup hzf
    have hk:=L.free _ hm rfl
    have vis:Vis X.env.scope z:=by
     rcases hk with w | w
     ·exact .inr (.inl w)
     ·exact .inr (.inr w)
    obtain ⟨m0,hn0,hl⟩:=I.loc
    obtain ⟨u',r,l⟩:=hl j z v' hz ev vis
    refine ⟨u',r,.inr ⟨.inr hzf,?_⟩⟩
    obtain ⟨c',hc'⟩:=c2 z hm
    rcases l with ⟨w,_⟩ | ⟨_,c'',hc'',hcell⟩
    ·rcases hk with q' | q'
     ·exact absurd (show X.env.kindOf z=some .local from w) (by rw [q']; decide)
     ·exact absurd (show X.env.kindOf z=some .local from w) (by rw [q']; decide)
    ·have:c'=c'':=Option.some.inj ((c1 _ _ hc').symm.trans hc'')
     subst this
     obtain ⟨o,ho,hd⟩:=hcell
     exact ⟨c',hc',o,k _ _ ho,hd⟩
 ·obtain ⟨w,o,ho,hd⟩:=I.cell y c (c1 _ _ e)
  exact ⟨w,o,k _ _ ho,hd⟩
 ·have hp':p∈X.pn++pins:=by simpa [yx] using hp
  obtain ⟨a1,a2,a3,a4,a5⟩:=I.pin p hp'
  refine ⟨k _ _ a1,a2,Nat.ne_of_lt (Heap.lt_size a1),λ z=>?_,a5⟩
  rcases List.mem_cons.mp (I.iO _ z) with e | e
  ·exact a3 e
  ·exact a4 e
 ·show (aed v fr σ).length=(xD X x fr).length
  simp [aed,xD]
def acR (H:Hp)(q x:Str)(params:Arguments)(body:Expr)(sc:Scope)(cl:List (Str×Addr))(pm:Value)(f:Addr):Prop :=
 ∃ c ctv oc vs t,H f=some (.frz (kla_obj "<lambda>" q params body sc cl pm c ctv) (.own 0))/\H c=some (.frz oc (.own 0))/\oc.data=.fields vs/\vs[1]? = some (.str q t)
theorem acC {k:Nat}{E:Value->Shared->Prop}{params:Arguments}{body:Expr}{pm:Value}{te:TE}{v:V}{u:Value}{Q:VK}(hr:cG (k+1) X.A)(hc:X.calm=true)(L:oY X sc x fr)(c1:∀ n c,cl.lookup n=some c->X.env.cells.lookup n=some c)(c2:∀ n,(n,NameKind.free)∈sc.names->∃ c,cl.lookup n=some c)
  (hb:∀ cdv ctv u,bindArgs (kla_fn "<lambda>" q params body sc cl pm cdv ctv) ⟨[u],[]⟩=pure [(x,u)])
  (he:∀ c s H pl,cG k (yx X q sc (xD X x fr) cl f c s H pl).A->PE (yx X q sc (xD X x fr) cl f c s H pl) body te)
  (I:Inv X pins σ H s)(hf:acR H q x params body sc cl pm f)(rv:RelV v u)(h:te (aed v fr σ) H Q):wpAny (model X.prog X.w) X.A (call (.ref f) [u]) (EP X pins σ Q) E s:=by
 obtain ⟨c,ctv,oc,vs,t,h1,h2,h3,h4⟩:=hf
 obtain ⟨g1,_⟩:=I.hok f _ h1
 obtain ⟨g2,_⟩:=I.hok c _ h2
 refine wpAny_call (PySem.W.kla_callFunE hr.depth g1 rfl L.co L.gen rfl ⟨c,oc,vs,t,rfl,g2,h3,h4⟩ ?_)
 rw [hb]
 refine wpAny_pure (wpAny_newFunctionEnv L.cell (λ y hy=>by rw [List.mem_singleton.mp hy]; exact L.own) (λ h₁ hns hsb=>⟨(I.nolimit).fresh _ hsb,?_⟩) L.kind)
 have hk₁:∀ b o,s.heap.get? b=some o->h₁.get? b=some o:=λ b o e=>hsb.extBut b o (Nat.ne_of_lt (Heap.lt_size e)) (Heap.get?_push_of_some _ e)
 have J:=aa8 (q:=q) (f:=f) (c:=c) (tk:=s.toks+1) L hc I c1 c2 rv hns hk₁
 have hr':cG k (yx X q sc (xD X x fr) cl f c s H pins).A:=hr.deeper _
 refine PySem.W.kla_codeExpr (wpAny_mono (he c s H pins hr' [] _ _ _ _ J h) (λ u' s' hh=>?_) λ _ _ z=>z.elim)
 obtain ⟨v',H',J',r',q'⟩:=hh
 exact I.after ⟨v',H',J'.os,J'.bare,J'.base,J'.hok,r',q'⟩
end
section
variable {X:Cx}{pins:List (Addr×Obj)}{σ:St}{H:Hp}{s:Shared}
theorem Inv.ab9 {P:Addr}{ps more:Array Value}{h':Heap}{t':Nat}(I:Inv X pins σ H s)(hP:H P=some (.tbl ps))(k:∀ b u,b≠P->s.heap.get? b=some u->h'.get? b=some u)(e:h'.get? P=some { cls:=.none,data:=.fields (ps++more) }) :
  Inv X pins σ (upd H P (.tbl (ps++more))) { s with heap:=h',toks:=t' }:=by
 have nn:∀ b,H b=none->b≠P:=λ b n=>Ne.symm (aL hP n)
 have nt:∀ b xs,H b=some (.tup xs)->b≠P:=λ b xs q=>uE q hP (λ z=>nomatch z)
 have nf:∀ b o u,H b=some (.frz o u)->b≠P:=λ b o u q=>uE q hP (λ z=>nomatch z)
 have no:∀ b y,H b=some (.own y)->b≠P:=λ b y q=>uE q hP (λ z=>nomatch z)
 refine I.un ⟨λ b o q n _ _=>k b o (nn b n) q,λ b o q n _ _=>⟨o.slots,k b o (nn b n) q⟩,λ b o _ n _=>by rw [ao (nn b n)]; exact n,λ b o q _=>?_,λ b xs q=>by rw [ao (nt b xs q)]; exact q,λ b o u q=>by rw [ao (nf b o u q)]; exact q,λ b qs q=>?_⟩ λ b u q=>?_
 ·by_cases hb:b=P
  ·subst hb; exact ⟨_,e⟩
  ·exact ⟨o,k b o hb q⟩
 ·by_cases hb:b=P
  ·subst hb
   rw [hP] at q
   cases q
   exact ⟨more,au⟩
  ·exact ⟨#[],by rw [ao hb,q]; simp⟩
 ·by_cases hb:b=P
  ·subst hb
   rw [au] at q
   cases q
   exact e
  ·rw [ao hb] at q
   exact (I.hok b u q).rL (λ c v hc r=>k c v (by rcases hc with z | z; rw [z]; exact hb; exact no c _ z) r) (λ c r=>by rw [ao (no c _ r)]; exact r) λ c xs r=>by rw [ao (nt c xs r)]; exact r
theorem Inv.hold {D:Addr}{ob:Obj}(I:Inv X pins σ H s)(e:s.heap.get? D=some ob)(hn:H D=none)
  (h0:X.s₀.heap.objs.size<=D)(hL:D≠X.env.locals)(hc:∀ x c,X.env.cells.lookup x=some c->c≠D)(hp:∀ p∈X.pn++pins,p.1≠D):Inv X pins σ (upd H D (.frz ob (.own 0))) s:=by
 have ne:∀ b u,H b=some u->b≠D:=λ b u q=>aL q hn
 refine I.step (h':=s.heap) (g':=s.gens) (d':=s.drawn) (t':=s.toks) (ch:=[D]) (λ b hb=>?_) (λ b o _ _ _ q _=>q) (λ b o _ _ _ q _=>⟨o.slots,q⟩) (λ b o hb q n=>?_) (λ b o _ q=>⟨o,q⟩)
  (λ b xs q=>by rw [ao (ne b _ q)]; exact q) (λ b o u q=>by rw [ao (ne b _ q)]; exact q) (λ b ps q=>⟨#[],by rw [ao (ne b _ q),q]; simp⟩) (λ m hm=>hm) (λ b u q=>?_) I.bare
 ·have e:b=D:=by simpa using hb
  subst e
  exact ⟨.inr h0,hL,hc,hp⟩
 ·rw [ao (λ z=>hb (by simp [z]))]; exact n
 ·by_cases hb:b=D
  ·subst hb
   rw [au] at q
   cases q
   exact ⟨e,ob,e⟩
  ·rw [ao hb] at q
   exact (I.hok b u q).rL (λ _ _ _ q=>q) (λ c r=>by rw [ao (ne c _ r)]; exact r) λ c xs r=>by rw [ao (ne c _ r)]; exact r
def agt (X:Cx)(sc:Scope)(cl:List (Str×Addr)):Prop:=(∀ n c,cl.lookup n=some c->X.env.cells.lookup n=some c)/\∀ n,(n,NameKind.free)∈sc.names->∃ c,cl.lookup n=some c
abbrev og (ps:Array Value)(lpos:Pos)(c:Addr):Array Value:=ps ++ #[rawInt lpos.line,rawInt lpos.col,.ref c]
def agE (X:Cx)(P:Addr)(q:Str)(params:Arguments)(body:Expr)(sc:Scope)(lpos:Pos):TE:=λ σ H Q=>∃ ps,H P=some (.tbl ps)/\TriplesOk ps.toList /\
 ((codeAmong lpos ps.toList=none/\∀ c f oc vs t ctv cl,agt X sc cl->H c=none->H f=none->c≠f->oc.data=.fields vs->vs[1]? = some (.str q t) ->
   Q (.ref f) (upd (upd (upd H c (.frz oc (.own 0))) P (.tbl (og ps lpos c))) f (.frz (kla_obj "<lambda>" q params body sc cl ((X.mg "__name__").getD .none) c ctv) (.own 0)))) \/
∃ c o vs t,codeAmong lpos ps.toList=some (.ref c)/\H c=some (.frz o (.own 0))/\o.data=.fields vs/\vs[1]? = some (.str q t)/\∀ f ctv cl,agt X sc cl->H f=none ->
   Q (.ref f) (upd H f (.frz (kla_obj "<lambda>" q params body sc cl ((X.mg "__name__").getD .none) c ctv) (.own 0))))
theorem ado {P cd:Addr}{params:Arguments}{body:Expr}{sc:Scope}{lpos:Pos}{x:Str}{fr:List Nat}(L:oY X sc x fr)(hcode:X.env.code=.ref cd)(hcd:PySem.W.codeHdIn X.K cd P=true)(hdef:defaultsOf params X.env=([],[]):=by rfl) :
  PE X (.Lambda params body sc lpos) (agE X P (X.env.qual ++ "<lambda>") params body sc lpos):=by
 intro pins s σ H Q I h
 obtain ⟨ps,hP,ht,h⟩:=h
 obtain ⟨cl,hcl,c1,c2⟩:=iU (scope:=sc) (env:=X.env) λ y hy hf=>I.ok.has y.1 (L.free y hy hf)
 refine PySem.W.kla_eval hdef ?_
 have hg:=I.ok.mod.glob.keeps I.bk
 obtain ⟨⟨bm,ob,b1,b2,b3,b4,b5,b6⟩,_⟩:=I.ok.mod.bm
 have b3':=I.bk _ _ b3
 have hPo:s.heap.get? P=some { cls:=.none,data:=.fields ps }:=I.hok P _ hP
 have hgP:mainGlobals≠P:=λ z=>by
  obtain ⟨o,es,ep,e,hd,_⟩:=hg
  rw [z,hPo] at e; cases e; cases hd
 have hbP:bm≠P:=λ z=>by rw [z,hPo] at b3'; cases b3'; cases b4
 have hbG:bm≠mainGlobals:=λ z=>by
  obtain ⟨o,es,ep,e,hd,_⟩:=hg
  rw [z,e] at b3'; cases b3'; rw [hd] at b6; cases b6
 have C:=PySem.W.codeHd_of_K I.kIn hcd
 rcases h with ⟨hnf,h⟩ | ⟨c,o,vs,t,hf,hc,hd,hv,h⟩
 ·refine PySem.W.kla_makeFunction (mg:=X.mg) hcl I.ok.glob hg hcode C hPo ht hnf hgP ⟨bm,ob,b1,b2,hbG,hbP,b3',b4,b5,b6⟩ λ c' ctv h' tk hx hge hlt hrec htb=>?_
  obtain ⟨c₂,oc,vs,t,e2,hoc,hd,hv⟩:=hrec
  cases e2
  have hcn:H c'=none:=I.hok.fresh hge
  have hfn:H h'.objs.size=none:=I.hok.fresh (Nat.le_trans hge (Nat.le_of_lt hlt))
  have cP:c'≠P:=Ne.symm (aL hP hcn)
  have I1:=I.ab9 (t':=tk) hP (λ b u hb e=>hx b u hb e) htb
  have I2:=I1.hold hoc (by rw [ao cP]; exact hcn) (Nat.le_trans I.sz hge) (λ z=>by obtain ⟨m,hn,_⟩:=I.loc; exact absurd (Nat.lt_of_lt_of_le hn.lt hge) (by rw [z]; exact Nat.lt_irrefl _))
   (λ y c hy z=>by obtain ⟨w,o,ho,_⟩:=I.cell y c hy; exact absurd (Nat.lt_of_lt_of_le (Heap.lt_size ho) hge) (by rw [z]; exact Nat.lt_irrefl _))
   (λ p hp z=>by obtain ⟨ho,_⟩:=I.pin p hp; exact absurd (Nat.lt_of_lt_of_le (Heap.lt_size ho) hge) (by rw [z]; exact Nat.lt_irrefl _))
  have hsw:upd (upd H P (.tbl (og ps lpos c'))) c' (.frz oc (.own 0))=upd (upd H c' (.frz oc (.own 0))) P (.tbl (og ps lpos c')):=by
   funext b
   unfold upd
   by_cases e1:b=c'
   ·rw [if_pos e1,if_neg (by rw [e1]; exact cP),if_pos e1]
   ·rw [if_neg e1,if_neg e1]
  rw [hsw] at I2
  have I3:=I2.laid (t':=tk) (o:=.frz (kla_obj "<lambda>" (X.env.qual ++ "<lambda>") params body sc cl ((X.mg "__name__").getD .none) c' ctv) (.own 0)) (h':=h'.push (kla_obj "<lambda>" (X.env.qual ++ "<lambda>") params body sc cl ((X.mg "__name__").getD .none) c' ctv)) (λ b u e=>Heap.get?_push_of_some _ e) (Nat.le_refl _) ⟨Heap.get?_push_size _ rfl,_,Heap.get?_push_size _ rfl⟩
  exact ⟨.ref _,_,I3,rfl,h c' h'.objs.size oc vs t ctv cl ⟨c1,c2⟩ hcn hfn (Nat.ne_of_lt hlt) hd hv⟩
 ·refine PySem.W.kla_makeFunctionHit (mg:=X.mg) hcl I.ok.glob hg hcode C hPo ht hf ⟨bm,ob,b1,b2,hbG,hbP,b3',b4,b5,b6⟩ λ ctv h' tk hk hsz=>?_
  have I3:=(I.kept (t':=tk) hk).laid (t':=tk) (o:=.frz (kla_obj "<lambda>" (X.env.qual ++ "<lambda>") params body sc cl ((X.mg "__name__").getD .none) c ctv) (.own 0)) (h':=h'.push (kla_obj "<lambda>" (X.env.qual ++ "<lambda>") params body sc cl ((X.mg "__name__").getD .none) c ctv)) (λ b u e=>Heap.get?_push_of_some _ e) (Nat.le_refl _) ⟨Heap.get?_push_size _ rfl,_,Heap.get?_push_size _ rfl⟩
  exact ⟨.ref _,_,I3,rfl,h _ ctv cl ⟨c1,c2⟩ (I.hok.fresh hsz)⟩
end
end L2
namespace L2
open PySem PySem.Spec PyProof.Rows
def u5 (X:Cx):Cx:={ X with A:=X.A.in1 }
section
variable {X:Cx}{pins:List (Addr×Obj)}{σ:St}{H:Hp}{s:Shared}
theorem Inv.in1 (I:Inv X pins σ H s):Inv (u5 X) pins σ H s :=
 ⟨⟨I.ok.mod,I.ok.kind,I.ok.glob,I.ok.blt,I.ok.above,I.ok.inj,I.ok.has,I.ok.cab,I.ok.hd,I.ok.frames,I.ok.stk,I.ok.exf,I.ok.bs,I.ok.bsz,I.ok.noex,I.ok.exfs,I.ok.nN,I.ok.frf⟩,I.os,I.bare,I.base,I.loc,I.cell,I.free,I.freeC,I.pin,I.hok,I.len⟩
theorem Inv.agA (I:Inv (u5 X) pins σ H s):Inv X pins σ H s :=
 ⟨⟨I.ok.mod,I.ok.kind,I.ok.glob,I.ok.blt,I.ok.above,I.ok.inj,I.ok.has,I.ok.cab,I.ok.hd,I.ok.frames,I.ok.stk,I.ok.exf,I.ok.bs,I.ok.bsz,I.ok.noex,I.ok.exfs,I.ok.nN,I.ok.frf⟩,I.os,I.bare,I.base,I.loc,I.cell,I.free,I.freeC,I.pin,I.hok,I.len⟩
theorem Inv.uy {it:Addr}{h':Heap}{t':Nat}(I:Inv X pins σ H s)(f:kJ X pins H it)(k:∀ b o,b≠it->s.heap.get? b=some o->h'.get? b=some o):Inv X pins σ H { s with heap:=h',toks:=t' } :=
 I.turned k f.1 f.2.1 f.2.2.2.1 f.2.2.2.2.1 f.2.2.2.2.2
theorem Inv.agI {a b:Addr}{oa ob:Obj}(I:Inv X pins σ H s)(fa:kJ X pins H a)(fb:kJ X pins H b)(ea:s.heap.get? a=some oa)(eb:s.heap.get? b=some ob)(ca:∀ v,oa.data ≠ .cell v)(cb:∀ v,ob.data ≠ .cell v):Inv X ((a,oa) :: (b,ob) :: pins) σ H s :=
 I.ee λ p hp=>by
  rcases List.mem_cons.mp hp with e | hp
  ·subst e; exact ⟨ea,fa.1,fa.2.1,fa.2.2.1,ca⟩
  rcases List.mem_cons.mp hp with e | hp
  ·subst e; exact ⟨eb,fb.1,fb.2.1,fb.2.2.1,cb⟩
  ·exact I.pin p (List.mem_append_right _ hp)
theorem Inv.aaA {a b:Addr}{oa ob:Obj}(I:Inv X ((a,oa) :: (b,ob) :: pins) σ H s):Inv X pins σ H s/\(s.heap.get? a=some oa/\H a=none)/\s.heap.get? b=some ob/\H b=none :=
 have pa:=I.pin (a,oa) (List.mem_append_right _ (.head _))
 have pb:=I.pin (b,ob) (List.mem_append_right _ (.tail _ (.head _)))
 ⟨I.ee λ p hp=>I.pin p (List.mem_append_right _ (.tail _ (.tail _ hp))),⟨pa.1,pa.2.1⟩,pb.1,pb.2.1⟩
theorem tu {l a:Addr}{items:Array Value}{i:Nat}{h:Heap}(hl:h.IsList l items)(hi:h.IsListIter a l i):l≠a:=by
 rintro rfl
 obtain ⟨o,e,c,_⟩:=hl
 obtain ⟨o',e',c',_⟩:=hi
 rw [e] at e'
 cases e'
 rw [c] at c'
 exact absurd (Value.type.inj c') (by decide)
variable {l f it S:Addr}{xs:List V}{R:Result->Shared->Prop}
theorem vH (kf:Nat->Int)(W:Nat->Hp->Prop)(hh:X.A.handled=none)(hl:∀ i H,W i H->SqL X.K H l xs)(hSI:S≠it)(fI:∀ H:Hp,H it=none->kJ X pins H it)(fS:∀ H:Hp,H S=none->kJ X pins H S)
  (turn:∀ (i:Nat) (v:V) (u:Value) (pl:List (Addr×Obj)) (H:Hp) (s:Shared),xs[i]? = some v->RelV v u->W i H->Inv (u5 X) pl σ H s->wpAny (model X.prog X.w) X.A.in1 (call (.ref f) [u]) (EP (u5 X) pl σ λ y H'=>y=.int (kf i)/\W (i+1) H') (λ _ _=>False) s)
  (fin:∀ (i:Nat) (v:V) (u:Value) (H:Hp) (s:Shared),xs[i]? = some v->RelV v u->(∀ j,j < xs.length->kf i<=kf j/\(j < i->kf i < kf j))->W xs.length H->Inv X pins σ H s->R (.ok (.ret u)) s) :
  ∀ (r j i:Nat) (H:Hp) (s:Shared) (v:V) (u:Value) (tb:Tok) (c:Nat),xs.length - (j+1)=r->j+1<=xs.length->Inv X pins σ H s->W (j+1) H->H it=none->H S=none ->
   s.heap.get? S=some (seqObj "list" #[u,.int (kf i) tb] c)->s.heap.IsListIter it l (j+1)->xs[i]? = some v->RelV v u->i<=j->(∀ m,m<=j->kf i<=kf m/\(m < i->kf i < kf m)) ->
   codeAny (model X.prog X.w) X.A (.builtin "min.loop" ⟨[.ref it,.ref f,.ref S],[]⟩) R s:=by
 have nm:(toString "min" ++ toString ".loop" : String) = "min.loop" := by decide
 intro r
 induction r with
 | zero =>
  intro j i H s v u tb c hr hj J hW nI nS gS gI hv ru hij best
  have hin:j+1=xs.length:=by omega
  obtain ⟨its,rl,pl,hz⟩:=J.list (hl _ _ hW)
  have sz:its.toArray.size=xs.length:=by rw [List.size_toArray,rl.length]
  have Wk:=Walks.list (prog:=X.prog) (w:=X.w) (A:=X.A.in1) hh it l (tu pl.isList gI) its.toArray
  refine codeAny_builtin PySem.F.entry_min_loop ?_; rw [Around.under_plainId PySem.F.plain_min_loop _]
  show wpAny _ X.A.in1 (seqItems? (.ref S) >>= _) _ _ _
  refine wpAny_bind (wpAny_seqItems gS rfl ?_)
  show wpAny _ X.A.in1 (tryCatch (pyNext (.ref it)) _ >>= _) _ _ _
  refine wpAny_bind (wpAny_tryCatch (Wk.done _ _ _ ⟨by rw [sz,<- hin]; exact gI,pl.isList⟩ λ h' tk' hk'=>?_))
  have J1:=J.uy (t':=tk') (fI H nI) λ b o hb e=>hk' b o (by simpa using hb) e
  have gS':=hk' S _ (by simpa using hSI) gS
  have s1:=Heap.SameBut.update h' S (Obj.mapSeq λ _=>(#[]:Array Value))
  show wpAny _ X.A.in1 (updateSeq S (λ _=>#[]) >>= _) _ _ _
  refine wpAny_bind (wpAny_updateSeq gS' rfl (wpAny_bind (wpAny_letGo (wpAny_pure ?_))))
  exact fin i v u H _ hv ru (λ m hm=>best m (by omega)) (by rw [<- hin]; exact hW) (J1.uy (t':=tk') (fS H nS) λ b o hb e=>(s1.2 b hb).trans e)
 | succ r ih =>
  intro j i H s v u tb c hr hj J hW nI nS gS gI hv ru hij best
  have hlt:j+1 < xs.length:=by omega
  obtain ⟨its,rl,pl,hz⟩:=J.list (hl _ _ hW)
  have sz:its.toArray.size=xs.length:=by rw [List.size_toArray,rl.length]
  have Wk:=Walks.list (prog:=X.prog) (w:=X.w) (A:=X.A.in1) hh it l (tu pl.isList gI) its.toArray
  refine codeAny_builtin PySem.F.entry_min_loop ?_; rw [Around.under_plainId PySem.F.plain_min_loop _]
  show wpAny _ X.A.in1 (seqItems? (.ref S) >>= _) _ _ _
  refine wpAny_bind (wpAny_seqItems gS rfl ?_)
  show wpAny _ X.A.in1 (tryCatch (pyNext (.ref it)) _ >>= _) _ _ _
  refine wpAny_bind (wpAny_tryCatch (Wk.item (j+1) _ _ _ (by rw [sz]; exact hlt) ⟨gI,pl.isList⟩ λ u2 h' tk' hP hst hk'=>?_))
  have J1:=J.uy (t':=tk') (fI H nI) λ b o hb e=>hk' b o (by simpa using hb) e
  have gS1:=hk' S _ (by simpa using hSI) gS
  obtain ⟨oI,goI,coI,doI⟩:=id hst.1
  obtain ⟨v2,hv2⟩:∃ v2,xs[j+1]? = some v2:=⟨_,List.getElem?_eq_getElem hlt⟩
  obtain ⟨u3,hu3,ru2⟩:=rl.get hv2
  have eu:u3=u2:=by
   have hP':its[j+1]? = some u2:=by simpa using hP
   rw [hu3] at hP'
   exact Option.some.inj hP'
  subst eu
  show wpAny _ X.A.in1 (tryCatch (holding [u3] (call (.ref f) [u3])) _ >>= _) _ _ _
  have JP:=J1.agI (fS H nS) (fI H nI) gS1 goI (λ _ z=>nomatch z) (λ _ z=>by rw [doI] at z; cases z)
  refine wpAny_bind (wpAny_tryCatch (wpAny_holding (wpAny_mono (turn (j+1) v2 u3 _ H _ hv2 ru2 hW JP.in1) (λ x s2 he=>?_) λ _ _ hF=>hF.elim)))
  obtain ⟨y,H2,J2,ry,ey,hW2⟩:=he
  subst ey
  obtain ⟨t2,rfl⟩:=ry
  obtain ⟨J3,⟨gS2,nS2⟩,goI2,nI2⟩:=J2.agA.aaA
  have gI2:s2.heap.IsListIter it l (j+1+1):=⟨oI,goI2,coI,doI⟩
  show wpAny _ X.A.in1 (tryCatch (holding [u3,.int (kf (j+1)) t2] (richCompare .Lt (.int (kf (j+1)) t2) (.int (kf i) tb) >>= _)) _ >>= _) _ _ _
  refine wpAny_bind (wpAny_tryCatch (wpAny_holding (wpAny_bind (CmpOf.ints_lt (prog:=X.prog) (w:=X.w) (A:=X.A.in1) (P:=λ i v=>∃ t,v=.int (kf i) t) kf (λ i v h=>h) (j+1) i _ _ _ _ _ ⟨t2,rfl⟩ ⟨tb,rfl⟩ ?_))))
  refine wpAny_bind (wpAny_holding (wpAny_truthy_bool (wpAny_bind (wpAny_letGo (wpAny_pure ?_)))))
  by_cases hb':kf (j+1) < kf i
  ·have s1:=Heap.SameBut.update s2.heap S (Obj.mapSeq λ _=>#[u3,.int (kf (j+1)) t2])
   obtain ⟨c2,hc2⟩:∃ c2,(s2.heap.update S (Obj.mapSeq λ _=>#[u3,.int (kf (j+1)) t2])).get? S=some (seqObj "list" #[u3,.int (kf (j+1)) t2] c2):=⟨_,get?_update_seq gS2 λ _=>#[u3,.int (kf (j+1)) t2]⟩
   simp only [hb',decide_true,if_true]
   refine wpAny_bind (wpAny_updateSeq gS2 rfl (wpAny_bind (wpAny_letGo ?_))); rw [nm]
   have J4:=J3.uy (t':=s2.toks) (h':=s2.heap.update S (Obj.mapSeq λ _=>#[u3,.int (kf (j+1)) t2])) (fS H2 nS2) λ b o hb e=>(s1.2 b hb).trans e
   refine wpAny_pure ⟨plainId_quiet PySem.F.plain_min_loop _,ih (j+1) (j+1) H2 _ v2 u3 t2 c2 (by omega) hlt J4 hW2 nI2 nS2 hc2 ⟨oI,(s1.2 it hSI.symm).trans goI2,coI,doI⟩ hv2 ru2 (Nat.le_refl _) λ m hm=>?_⟩
   by_cases e:m=j+1
   ·subst e; exact ⟨by omega,λ _=>by omega⟩
   ·have:=(best m (by omega)).1
    exact ⟨by omega,λ _=>by omega⟩
  ·simp only [hb',decide_false,Bool.false_eq_true,if_false]
   refine wpAny_bind (wpAny_letGo ?_); rw [nm]
   refine wpAny_pure ⟨plainId_quiet PySem.F.plain_min_loop _,ih (j+1) i H2 s2 v u tb c (by omega) hlt J3 hW2 nI2 nS2 gS2 gI2 hv ru (by omega) λ m hm=>?_⟩
   by_cases e:m=j+1
   ·subst e; exact ⟨by omega,λ _=>by omega⟩
   ·exact best m (by omega)
theorem ack {Q:Value->Shared->Prop}{E:Value->Shared->Prop}(kf:Nat->Int)(W:Nat->Hp->Prop)(hh:X.A.handled=none)(I:Inv X pins σ H s)(hW:W 0 H)(hne:0 < xs.length)(hl:∀ i H,W i H->SqL X.K H l xs)
  (turn:∀ (i:Nat) (v:V) (u:Value) (pl:List (Addr×Obj)) (H:Hp) (s:Shared),xs[i]? = some v->RelV v u->W i H->Inv (u5 X) pl σ H s->wpAny (model X.prog X.w) X.A.in1 (call (.ref f) [u]) (EP (u5 X) pl σ λ y H'=>y=.int (kf i)/\W (i+1) H') (λ _ _=>False) s)
  (fin:∀ (i:Nat) (v:V) (u:Value) (H:Hp) (s:Shared),xs[i]? = some v->RelV v u->(∀ j,j < xs.length->kf i<=kf j/\(j < i->kf i < kf j))->W xs.length H->Inv X pins σ H s->Q u s) :
  wpAny (model X.prog X.w) X.A (call (.builtin "min") [.ref l] [(Str.ofString "key",.ref f)]) Q E s:=by
 have nm:(toString "min" ++ toString ".loop" : String) = "min.loop" := by decide
 obtain ⟨its,rl,pl,hz⟩:=I.list (hl _ _ hW)
 have sz:its.toArray.size=xs.length:=by rw [List.size_toArray,rl.length]
 obtain ⟨ol,hol,_⟩:=id pl.isList
 have hll:l < s.heap.objs.size:=Heap.lt_size hol
 refine kmk_tree PySem.F.kind_min PySem.F.plain_min PySem.F.entry_min (kmk_min_key _ _) ?_
 show wpAny _ X.A.in1 (Builtin.Builtins.bindParams "min" ["key", "default"] 0 ⟨[],[(Str.ofString "key",.ref f)]⟩ >>= _) _ _ s
 refine wpAny_bind (wpAny_of_eq (show Builtin.Builtins.bindParams "min" ["key", "default"] 0 ⟨[],[(Str.ofString "key",.ref f)]⟩=pure [some (.ref f),none] from rfl) (wpAny_bind (wpAny_pure ?_)))
 refine wpAny_bind (wpAny_pyIter_list pl.isList (wpAny_bind (wpAny_newList ?_ (Nat.zero_le _)))); rw [nm]
 generalize hit:s.heap.objs.size=it
 have hS:(s.heap.push { cls:=.type "list_iterator",data:=.fields #[.ref l,.int 0 0] }).objs.size=it+1:=by rw [<- hit]; exact size_push' ..
 rw [hS]
 have nI:H it=none:=I.hok.fresh (by rw [hit]; exact Nat.le_refl _)
 have nS:H (it+1)=none:=I.hok.fresh (by rw [hit]; exact Nat.le_succ _)
 have fI:∀ H:Hp,H it=none->kJ X pins H it:=λ H n=>I.sy (by rw [hit]; exact Nat.le_refl _) n
 have fS:∀ H:Hp,H (it+1)=none->kJ X pins H (it+1):=λ H n=>I.sy (by rw [hit]; exact Nat.le_succ _) n
 have gI:((s.heap.push { cls:=.type "list_iterator",data:=.fields #[.ref l,.int 0 0] }).push (seqObj "list" #[] 0)).get? it=some { cls:=.type "list_iterator",data:=.fields #[.ref l,.int 0 0] }:=Heap.get?_push_of_some _ (by rw [<- hit]; exact Heap.get?_push_size _ rfl)
 have gS:((s.heap.push { cls:=.type "list_iterator",data:=.fields #[.ref l,.int 0 0] }).push (seqObj "list" #[] 0)).get? (it+1)=some (seqObj "list" #[] 0):=by rw [<- hS]; exact Heap.get?_push_size _ rfl
 refine wpAny_pure ⟨plainId_quiet PySem.F.plain_min_loop _,?_⟩
 generalize hH:(s.heap.push { cls:=.type "list_iterator",data:=.fields #[.ref l,.int 0 0] }).push (seqObj "list" #[] 0)=hp at gI gS
 have kp:∀ b o,s.heap.get? b=some o->hp.get? b=some o:=λ b o e=>by rw [<- hH]; exact Heap.get?_push_of_some _ (Heap.get?_push_of_some _ e)
 have J:=I.kept (t':=s.toks) kp
 have hlI:l≠it:=by rw [<- hit]; exact Nat.ne_of_lt hll
 have hlst:hp.IsList l its.toArray:=pl.isList.at λ o e=>kp l o e
 have Wk:=Walks.list (prog:=X.prog) (w:=X.w) (A:=X.A.in1) hh it l hlI its.toArray
 refine codeAny_builtin PySem.F.entry_min_loop ?_; rw [Around.under_plainId PySem.F.plain_min_loop _]
 show wpAny _ X.A.in1 (seqItems? (.ref (it+1)) >>= _) _ _ _
 refine wpAny_bind (wpAny_seqItems gS rfl ?_)
 show wpAny _ X.A.in1 (tryCatch (pyNext (.ref it)) _ >>= _) _ _ _
 refine wpAny_bind (wpAny_tryCatch (Wk.item 0 _ _ _ (by rw [sz]; exact hne) ⟨⟨_,gI,rfl,rfl⟩,hlst⟩ λ u2 h' tk' hP hst hk'=>?_))
 have J1:=J.uy (t':=tk') (fI H nI) λ b o hb e=>hk' b o (by simpa using hb) e
 have gS1:=hk' (it+1) _ (by simp) gS
 obtain ⟨oI,goI,coI,doI⟩:=id hst.1
 obtain ⟨v2,hv2⟩:∃ v2,xs[0]? = some v2:=⟨_,List.getElem?_eq_getElem hne⟩
 obtain ⟨u3,hu3,ru2⟩:=rl.get hv2
 have eu:u3=u2:=by
  have hP':its[0]? = some u2:=by simpa using hP
  rw [hu3] at hP'
  exact Option.some.inj hP'
 subst eu
 show wpAny _ X.A.in1 (tryCatch (holding [u3] (call (.ref f) [u3])) _ >>= _) _ _ _
 have JP:=J1.agI (fS H nS) (fI H nI) gS1 goI (λ _ z=>nomatch z) (λ _ z=>by rw [doI] at z; cases z)
 refine wpAny_bind (wpAny_tryCatch (wpAny_holding (wpAny_mono (turn 0 v2 u3 _ H _ hv2 ru2 hW JP.in1) (λ x s2 he=>?_) λ _ _ hF=>hF.elim)))
 obtain ⟨y,H2,J2,ry,ey,hW2⟩:=he
 subst ey
 obtain ⟨t2,rfl⟩:=ry
 obtain ⟨J3,⟨gS2,nS2⟩,goI2,nI2⟩:=J2.agA.aaA
 have s1:=Heap.SameBut.update s2.heap (it+1) (Obj.mapSeq λ _=>#[u3,.int (kf 0) t2])
 obtain ⟨c2,hc2⟩:∃ c2,(s2.heap.update (it+1) (Obj.mapSeq λ _=>#[u3,.int (kf 0) t2])).get? (it+1)=some (seqObj "list" #[u3,.int (kf 0) t2] c2):=⟨_,get?_update_seq gS2 λ _=>#[u3,.int (kf 0) t2]⟩
 show wpAny _ X.A.in1 (updateSeq (it+1) (λ _=>#[u3,.int (kf 0) t2]) >>= _) _ _ _
 refine wpAny_bind (wpAny_updateSeq gS2 rfl ?_); rw [nm]
 have J4:=J3.uy (t':=s2.toks) (h':=s2.heap.update (it+1) (Obj.mapSeq λ _=>#[u3,.int (kf 0) t2])) (fS H2 nS2) λ b o hb e=>(s1.2 b hb).trans e
 refine wpAny_pure ⟨plainId_quiet PySem.F.plain_min_loop _,vH kf W hh hl (by simp) fI fS turn fin _ 0 0 H2 _ v2 u3 t2 c2 rfl hne J4 hW2 nI2 nS2 hc2 ⟨oI,(s1.2 it (by simp)).trans goI2,coI,doI⟩ hv2 ru2 (Nat.le_refl _) λ m hm=>?_⟩
 have e:m=0:=by omega
 subst e
 exact ⟨by omega,λ h=>absurd h (Nat.lt_irrefl _)⟩
end
end L2
namespace D
open PySem PySem.Spec PyProof.Rows L2
open PySem.W (kla_obj kla_fn)
def abv (w:W)(fr:List Nat)(τ:DS):DS:=some w :: fr.map λ j=>(τ[j]?).getD none
section
variable {X:Cx}{K:PySem.W.Frag}
theorem acf {H:Hp}{σ:St}{τ:DS}{M:MH}{v:V}{w:W}(A:Abs K H σ τ M)(r:az K H w v)(fr:List Nat):Abs K H (aed v fr σ) (abv w fr τ) M:=(tq A 1 fr).set 0 r
theorem abB {M:MH}{a:Addr}{o:MO}(h:M a=some o):aK M a o=M:=by
 funext b
 by_cases e:b=a
 ·rw [e,aa,h]
 ·rw [ah e]
theorem ug {H:Hp}{M:MH}{P c:Addr}{ps:Array Value}{q:Str}{lpos:Pos}{oc:Obj}{vs:Array Value}{t:Tok}(m:cm K H M)(hP:M P=some (.code q lpos))(hT:H P=some (.tbl ps))(ht:TriplesOk ps.toList)(hn:codeAmong lpos ps.toList=none)(hc:H c=none)(hd:oc.data=.fields vs)(hv:vs[1]? = some (.str q t)) :
  Kp H (upd (upd H c (.frz oc (.own 0))) P (.tbl (og ps lpos c)))/\cm K (upd (upd H c (.frz oc (.own 0))) P (.tbl (og ps lpos c))) M:=by
 have cP:c≠P:=Ne.symm (aL hT hc)
 have hT':upd H c (.frz oc (.own 0)) P=some (.tbl ps):=by rw [ao (Ne.symm cP)]; exact hT
 have k2:Kp (upd H c (.frz oc (.own 0))) (upd (upd H c (.frz oc (.own 0))) P (.tbl (og ps lpos c))):=Kp.set hT' (λ _ z=>nomatch z) (λ _ _ z=>nomatch z)
 refine ⟨(Kp.new hc).trans k2,?_⟩
 have e:(og ps lpos c).toList=ps.toList++[rawInt lpos.line,rawInt lpos.col,.ref c]:=by simp [og]
 have:=(m.new (o:=.frz oc (.own 0)) hc).put (mo:=.code q lpos) k2 ⟨_,au,by rw [e]; exact TriplesOk_snoc _ _ _ _ ht,.inr ⟨c,oc,vs,t,by rw [e]; exact codeAmong_snoc _ ht hn,by rw [ao cP,au],hd,hv⟩⟩
 rw [abB hP] at this
 exact this
def abh (P:Addr)(q:Str)(lpos:Pos)(to tb:TD)(fr:List Nat)(τ:DS)(M:MH)(Q:QD):Prop:=to τ M λ w M1=>∃ ds,w=.d (.list ds)/\ds≠[]/\M1 P=some (.code q lpos) /\
 ∃ kf:Nat->Int,(∀ i d,ds[i]? = some d->tb (abv (.d d) fr τ) M1 λ y M2=>y=.d (.int (kf i))/\M2=M1)/\∀ i d,ds[i]? = some d->(∀ j,j < ds.length->kf i<=kf j/\(j < i->kf i < kf j))->Q (.d d) M1
variable {P cd:Addr}{q x:Str}{lpos pos p kpos:Pos}{params:Arguments}{body o:Expr}{sc:Scope}{fr:List Nat}{to tb:TD}{k:Nat}
theorem acR.keep {H H':Hp}{q x:Str}{params:Arguments}{body:Expr}{sc:Scope}{cl:List (Str×Addr)}{pm:Value}{f:Addr}(h:acR H q x params body sc cl pm f)(kp:Kp H H'):acR H' q x params body sc cl pm f:=by
 obtain ⟨c,ctv,oc,vs,t,h1,h2,h3,h4⟩:=h
 exact ⟨c,ctv,oc,vs,t,kp.frz _ _ _ h1,kp.frz _ _ _ h2,h3,h4⟩
theorem yW (hr:cG (k+2) X.A)(hc:X.calm=true)(hg:Gl X "min")(hm:X.mg "min" = none)(L:oY X sc x fr)(hcode:X.env.code=.ref cd)(hcd:PySem.W.codeHdIn X.K cd P=true)(hq:X.env.qual ++ "<lambda>" = q)
  (hb:∀ cl pm cdv ctv u,bindArgs (kla_fn "<lambda>" q params body sc cl pm cdv ctv) ⟨[u],[]⟩=pure [(x,u)])(ho:PD X o to)
  (he:∀ cl f c s H pl,cG k (yx (u5 X) q sc (xD X x fr) cl f c s H pl).A->PD (yx (u5 X) q sc (xD X x fr) cl f c s H pl) body tb)(hso:df o=false:=by rfl)(hdef:defaultsOf params X.env=([],[]):=by rfl) :
  PD X (.Call (.Name "min" p) [o] [⟨some "key",.Lambda params body sc lpos,kpos⟩] pos) (abh P q lpos to tb fr):=by
 intro pins s σ H Q I h
 subst hq
 have hst:starEach [o] X.env=(false,eval o X.env) :: starEach [] X.env:=bK o [] X.env hso
 have pa:PA X [o] (uc (up X.K to) aab):=gF ho lE hst
 have pk:PK X [⟨some "key",.Lambda params body sc lpos,kpos⟩] (uc (agE X P (X.env.qual ++ "<lambda>") params body sc lpos) aab):=abw (ado L hcode hcd hdef) aec
 obtain ⟨τ,M,Qd,A,h,kk⟩:=h
 refine wpAny_Call_Name_kw (lN I hg hm xW (callWith_kw (he:=by rw [hst]; rfl) (hplain:=cE pos X.env [o] (by simp [hso])) ?_))
 refine thn (pa pos pins s σ H (λ vs H1=>∃ v w M1,vs=[v]/\Kp H H1/\az X.K H1 w v/\cm X.K H1 M1/\∃ ds,w=.d (.list ds)/\ds≠[]/\M1 P=some (.code (X.env.qual ++ "<lambda>") lpos) /\
  ∃ kf:Nat->Int,(∀ i d,ds[i]? = some d->tb (abv (.d d) fr τ) M1 λ y M2=>y=.d (.int (kf i))/\M2=M1)/\∀ i d,ds[i]? = some d->(∀ j,j < ds.length->kf i<=kf j/\(j < i->kf i < kf j))->Qd (.d d) M1) I
  ⟨τ,M,_,A,h,λ x H1 w M1 kp r m z=>⟨x,w,M1,rfl,kp,r,m,z⟩⟩) λ us s1 ⟨vs,H1,I1,r1,hx⟩=>?_
 obtain ⟨v,w,M1,ev,kp1,rw1,m1,ds,ew,hne,hP,kf,hkey,hfin⟩:=hx
 subst ev ew
 simp only [az,ay] at rw1
 obtain ⟨a,xs,ea,hs,ra⟩:=rw1
 subst ea
 obtain ⟨u,rfl,ru⟩:=vals1 r1
 cases (show u=Value.ref a from ru)
 obtain ⟨ps,hT,ht,hcA⟩:=m1 P _ hP
 refine thn (pk pos pins s1 σ H1 (λ ks H2=>∃ f cl,ks=[.ref f]/\Kp H1 H2/\cm X.K H2 M1/\agt X sc cl/\acR H2 (X.env.qual ++ "<lambda>") x params body sc cl ((X.mg "__name__").getD .none) f) I1 ?_) λ kus s2 ⟨ks,H2,I2,r2,f,cl,ek,kp2,m2,hcl,hlam⟩=>?_
 ·refine ⟨ps,hT,ht,?_⟩
  rcases hcA with hn | ⟨c,oc,vs,t,e1,e2,e3,e4⟩
  ·refine .inl ⟨hn,λ c f oc vs t ctv cl hcl hc0 hf0 hcf hd hv=>?_⟩
   obtain ⟨k3,m3⟩:=ug m1 hP hT ht hn hc0 hd hv
   have fP:f≠P:=Ne.symm (aL hT hf0)
   have cP:c≠P:=Ne.symm (aL hT hc0)
   have hf1:upd (upd H1 c (.frz oc (.own 0))) P (.tbl (og ps lpos c)) f=none:=by rw [ao fP,ao (Ne.symm hcf)]; exact hf0
   exact ⟨f,cl,rfl,k3.trans (Kp.new hf1),m3.new hf1,hcl,c,ctv,oc,vs,t,au,by rw [ao hcf,ao cP,au],hd,hv⟩
  ·exact .inr ⟨c,oc,vs,t,e1,e2,e3,e4,λ f ctv cl hcl hf0=>⟨f,cl,rfl,Kp.new hf0,m1.new hf0,hcl,c,ctv,oc,vs,t,au,by rw [ao (aL e2 hf0)]; exact e2,e3,e4⟩⟩
 subst ek
 obtain ⟨ku,rfl,rk⟩:=vals1 r2
 cases (show ku=Value.ref f from rk)
 show wpAny _ _ (call (.builtin "min") [.ref a] [(Str.ofString "key",.ref f)]) _ _ s2
 have hlen:=ra.length
 have L':oY (u5 X) sc x fr:=⟨L.kind,L.co,L.gen,L.cell,L.free,L.own,L.fr⟩
 have A2:∀ {H'},Kp H2 H'->cm X.K H' M1->Abs X.K H' σ τ M1:=λ kp m=>A.go (kp1.trans (kp2.trans kp)) m
 refine ack (xs:=xs) (λ i=>kf i) (λ i H'=>Kp H2 H'/\cm X.K H' M1) hr.hd I2 ⟨Kp.refl _,m2⟩ (by rw [hlen]; exact List.length_pos_iff.mpr hne) (λ i H' hW=>(SqF.keep (kp2.trans hW.1) hs).sq) (λ i v u pl H' s' hv ru hW J=>?_) λ i v u H' s' hv ru hbest hW J=>?_
 ·obtain ⟨d,hd,rd⟩:=(ra.keep (kp2.trans hW.1)).get' hv
  refine acC (X:=u5 X) (k:=k) (hr.in1) hc L' hcl.1 hcl.2 (hb cl _) (te:=up X.K tb) (λ c s H pl hr'=>he cl f c s H pl hr') J (D.acR.keep hlam hW.1) ru ?_
  refine ⟨_,M1,_,acf (A2 hW.1 hW.2) (w:=.d d) rd fr,hkey i d hd,λ y H3 w3 M3 kp3 r3 m3 z=>?_⟩
  obtain ⟨e1,e2⟩:=z
  subst e1 e2
  simp only [az,ay] at r3
  exact ⟨r3,hW.1.trans kp3,m3⟩
 ·obtain ⟨d,hd,rd⟩:=(ra.keep (kp2.trans hW.1)).get' hv
  exact ⟨v,H',J,ru,kk v H' (.d d) M1 (kp1.trans (kp2.trans hW.1)) rd hW.2 (hfin i d hd λ j hj=>hbest j (by omega))⟩
end
namespace Q
theorem abR {X:Cx}{P cd:Addr}{q x:Str}{lpos pos p kpos:Pos}{params:Arguments}{body o:Expr}{sc:Scope}{fr:List Nat}{to tb:TD}{k:Nat}(hr:cG (k+2) X.A)(hc:X.calm=true)(hg:Gl X "min")(hm:X.mg "min" = none)(L:oY X sc x fr)(hcode:X.env.code=.ref cd)(hcd:PySem.W.codeHdIn X.K cd P=true)(hq:X.env.qual ++ "<lambda>" = q)
  (hb:∀ cl pm cdv ctv u,bindArgs (kla_fn "<lambda>" q params body sc cl pm cdv ctv) ⟨[u],[]⟩=pure [(x,u)])(ho:Jd (PD X o to))
  (he:∀ cl f c s H pl,cG k (yx (u5 X) q sc (xD X x fr) cl f c s H pl).A->Jd (PD (yx (u5 X) q sc (xD X x fr) cl f c s H pl) body tb))(hso:df o=false:=by rfl)(hdef:defaultsOf params X.env=([],[]):=by rfl) :
  Jd (PD X (.Call (.Name "min" p) [o] [⟨some "key",.Lambda params body sc lpos,kpos⟩] pos) (abh P q lpos to tb fr)):=⟨D.yW hr hc hg hm L hcode hcd hq hb ho.h (λ cl f c s H pl h=>(he cl f c s H pl h).h) hso hdef⟩
end Q
end D
namespace L2
open PySem PySem.Spec PyProof.Rows
def zj (ts:List Addr)(H:Hp):Prop:=∀ b,H b=none\/(∃ o xs,H b=some (.frz o (.lst xs)))\/(b∈ts/\H b=some (.tbl #[]))
theorem v7 {P:Program}{w:World}{K:PySem.W.Frag}{mg mb:Str->Option Value}{CX:CXT}{k:Nat}{fa a:Addr}{fd:FuncData}{x:Str}{sp:Sp}{s₁:Shared}{vs:List Value}{ns:List Int}
  (KX:K.In s₁.heap)(hns:s₁.heap.Ns mainGlobals mg)(hb:s₁.heap.Ns builtinsNs mb)(hbb:∀ x:Str,x ≠ "__name__" -> mb x=bootBuiltins x)(hlim:s₁.heap.NoLimit)(hbm:BM mg s₁.heap)(hg:s₁.gens = #[])
  (ha:s₁.heap.get? a=some { cls:=.type "list",data:=.seq vs.toArray })(hi:IntsAre vs ns)(hl:ns.length<=sizeLine)(hr:cG k callerA)(ts:List Addr)(hts:∀ T∈ts,(∃ c,PySem.W.codeHdIn K c T=true)/\K.lookup T=none/\s₁.heap.get? T=some { cls:=.none,data:=.fields #[] })
  (F:∀ base:Heap,K.In base->base.Ns mainGlobals mg->bV P w K mg base CX k fa fd [x] sp)(hbind:∀ (s:Shared) (u:Value),BindsTo s fd ⟨[u],[]⟩ [(x,u)])
  (hsp:∀ H:Hp,zj ts H->(∀ T∈ts,H T=some (.tbl #[]))->SqL K H a (ns.map V.int)->sp [.ref a] H (λ v _=>v=.bl true) λ _ _ _=>False)
  (hCX:∀ H e s',CX [] H s₁ (λ _ _ _=>False) e s'->False) :
  codeAny (model P w) callerA (.call (.ref fa) ⟨[.ref a],[]⟩) (λ r s'=>r=.ok (.ret (.bool true))/\OldK s₁.heap s'.heap/\s'.os=s₁.os/\AllBare s'.gens) s₁:=by
 have rv:=fG hi
 have lenV:=hi.length
 have at':∀ T∈ts,T≠a:=λ T hT e=>by
  have h:=(hts T hT).2.2
  rw [e,ha] at h
  cases h
 have core:∀ H:Hp,zj ts H->(∀ T∈ts,H T=some (.tbl #[]))->SqL K H a (ns.map V.int)->HOk P w H s₁.heap->(∀ b,H b≠none->b=a\/b∈ts)->(H a≠none->K.lookup a=none) ->
   codeAny (model P w) callerA (.call (.ref fa) ⟨[.ref a],[]⟩) (λ r s'=>r=.ok (.ret (.bool true))/\OldK s₁.heap s'.heap/\s'.os=s₁.os/\AllBare s'.gens) s₁:=by
  intro H hO hTb hS hok hA hK
  have base_of:∀ {b:Addr} {o:Obj},s₁.heap.get? b=some o->H b=none->(yZ s₁.heap H).get? b=some o:=λ e n=>yH e n
  have noA:∀ {b:Addr} {o:Obj} {es:Array DictEntry} {ep:Nat},s₁.heap.get? b=some o->o.data=.dict es ep->H b=none:=λ {b o es ep} e d=>by
   cases q:H b with
   | none=>rfl
   | some u =>
    rcases hA b (by rw [q]; simp) with e' | e'
    ·subst e'
     rw [ha] at e; cases e
     have d':Data.seq vs.toArray _=Data.dict es ep:=d
     cases d'
    ·rw [(hts b e').2.2] at e; cases e
     have d':Data.fields _=Data.dict es ep:=d
     cases d'
  have nsK:∀ {b:Addr} {m:Str->Option Value},s₁.heap.Ns b m->(yZ s₁.heap H).Ns b m:=λ {b m} ⟨o,es,ep,e,d,r⟩=>⟨o,es,ep,base_of e (noA e d),d,r⟩
  have hKb:K.In (yZ s₁.heap H):=λ b o e=>base_of (KX b o e) (by
   cases q:H b with
   | none=>rfl
   | some u =>
    rcases hA b (by rw [q]; simp) with e' | e'
    ·subst e'
     rw [hK (by rw [q]; simp)] at e; cases e
    ·rw [(hts b e').2.1] at e; cases e)
  have hM:Mod K mg (yZ s₁.heap H):=⟨hKb,nsK hns,⟨mb,nsK hb,hbb⟩,let ⟨mc,h1,h2⟩:=hlim; ⟨mc,nsK h1,h2⟩,let ⟨⟨b,o,h1,h2,h3,h4,h5,h6⟩,mm,hmm⟩:=hbm; ⟨⟨b,o,h1,h2,base_of h3 (by cases q:H b with | none=>rfl | some u=>(rcases hA b (by rw [q]; simp) with e' | e'; (subst e'; rw [ha] at h3; cases h3; cases h6); (rw [(hts b e').2.2] at h3; cases h3; cases h6))),h4,h5,h6⟩,mm,nsK hmm⟩⟩
  have e0:aat P w K mg (yZ s₁.heap H) callerA [] s₁ H:=⟨rfl,hM,λ b o e=>acB e,Nat.le_of_eq (vj _ _),trivial,λ b hb=>absurd (show b∈([]:List Addr) from hb) (by simp),hok,.of_eq hg⟩
  refine codeAny_mono ((F _ hKb (nsK hns)).run callerA [] s₁ H ⟨[.ref a],[]⟩ [.ref a] [.ref a] _ _ hr e0 (hbind s₁ (.ref a)) (.cons rfl .nil) (hsp H hO hTb hS)) λ r s' h=>?_
  cases r with
  | error e=>exact (hCX H e s' h).elim
  | ok fl =>
   cases fl with
   | next=>exact False.elim h
   | brk=>exact False.elim h
   | cont=>exact False.elim h
   | ret u =>
    obtain ⟨v,H',os,bare,un,hok',r',q⟩:=h
    have q':v=.bl true:=q
    subst q'
    obtain rfl:u=Value.bool true:=r'
    have old:∀ b o,s₁.heap.get? b=some o->s'.heap.get? b=some o\/∃ more,b∈ts/\s'.heap.get? b=some { cls:=.none,data:=.fields (#[]++more) }:=λ b o e=>?_
    refine ⟨rfl,⟨λ b o e=>?_,λ b o e=>(old b o e).elim (λ z=>⟨_,z⟩) λ ⟨_,_,z⟩=>⟨_,z⟩⟩,os,bare⟩
    ·rcases old b o e with z | ⟨more,hb,z⟩
     ·exact .inl z
     ·obtain ⟨⟨c,hc⟩,_,h3⟩:=hts b hb
      rw [h3] at e
      cases e
      exact .inr (.inl ⟨((PySem.W.codeHd_of_K KX hc).tab h3).isCodeTable,rfl,#[],more,rfl,z⟩)
    cases q:H b with
    | none=>exact .inl <| un.keep b o e q (by intro z; exact absurd (show b∈([]:List Addr) from z) (by simp)) (by simp)
    | some u =>
     rcases hO b with z | ⟨ob,xs,z⟩ | ⟨hb,z⟩
     ·rw [q] at z; cases z
     ·refine .inl ?_
      have z2:=un.frzs b ob _ z
      obtain ⟨e1,_⟩:=hok b _ z
      obtain ⟨e2,_⟩:=hok' b _ z2
      rw [e] at e1; cases e1
      exact e2
     ·obtain ⟨more,z2⟩:=un.tbls b _ z
      exact .inr ⟨more,hb,hok' b _ z2⟩
 cases hk:K.lookup a with
 | some o =>
  have e:=KX a o hk
  rw [ha] at e
  cases e
  refine core (λ b=>if b∈ts then some (.tbl #[]) else none) (λ b=>?_) (λ T hT=>if_pos hT) (.inr ⟨_,vs.toArray,_,hk,rfl,rfl,rfl,by rw [List.size_toArray,lenV]; exact hl,by simpa using rv⟩) (λ b u z=>?_) (λ b z=>?_) λ z=>absurd (if_neg λ h=>at' a h rfl) z
  ·by_cases hb:b∈ts
   ·exact .inr (.inr ⟨hb,if_pos hb⟩)
   ·exact .inl (if_neg hb)
  ·by_cases hb:b∈ts
   ·have z':=(if_pos hb).symm.trans z
    cases z'
    exact (hts b hb).2.2
   ·have z':=(if_neg hb).symm.trans z
    cases z'
  ·by_cases hb:b∈ts
   ·exact .inr hb
   ·exact absurd (if_neg hb) z
 | none =>
  refine core (λ b=>if b=a then some (.frz { cls:=.type "list",data:=.seq vs.toArray } (.lst (ns.map V.int))) else if b∈ts then some (.tbl #[]) else none) (λ b=>?_) (λ T hT=>(if_neg (at' T hT)).trans (if_pos hT)) (.inl (.inr ⟨{ cls:=.type "list",data:=.seq vs.toArray },if_pos rfl⟩)) (λ b u z=>?_) (λ b z=>?_) λ _=>hk
  ·by_cases hb:b=a
   ·exact .inr (.inl ⟨_,_,if_pos hb⟩)
   ·by_cases hb2:b∈ts
    ·exact .inr (.inr ⟨hb2,(if_neg hb).trans (if_pos hb2)⟩)
    ·exact .inl ((if_neg hb).trans (if_neg hb2))
  ·by_cases hb:b=a
   ·have z':=(if_pos hb).symm.trans z
    cases z'
    subst hb
    exact ⟨ha,by rw [List.length_map]; exact hl,vs,_,rv,ha⟩
   ·have z0:=(if_neg hb).symm.trans z
    by_cases hb2:b∈ts
    ·have z':=(if_pos hb2).symm.trans z0
     cases z'
     exact (hts b hb2).2.2
    ·have z':=(if_neg hb2).symm.trans z0
     cases z'
  ·by_cases hb:b=a
   ·exact .inl hb
   ·by_cases hb2:b∈ts
    ·exact .inr hb2
    ·exact absurd ((if_neg hb).trans (if_neg hb2)) z
theorem za {l:PySem.W.OpenLaw}{n k:Nat}{q:Program}{loose:List Str}{XP:(Str->Option Value)->Heap->Prop}{YP:World->Heap->Prop}{d:DefRec}{K:Params->PySem.W.Frag}{CX:World->CXT}{sp:World->Sp}{x:Str}
  (hq:importsNone q=true)(hn:l.most=some n)(hn2:n<=sizeLine)(hdf:d.params.defaults=[])(hr:cG k callerA)
  (ts:List Addr)(hT:∀ w:World,∀ T∈ts,(∃ c,PySem.W.codeHdIn (K w.params) c T=true)/\(K w.params).lookup T=none)(hY:∀ (w:World) (h:Heap),YP w h->(K w.params).In h/\∀ T∈ts,h.get? T=some { cls:=.none,data:=.fields #[] })
  (F:∀ (w:World) (mg:Str->Option Value) (fa:Addr) (h:Heap),(K w.params).In h->h.Ns mainGlobals mg->mg d.name=some (.ref fa) ->
   ∃ fd:FuncData,(∀ (s:Shared) (u:Value),BindsTo s fd ⟨[u],[]⟩ [(x,u)]) /\
    ∀ base:Heap,(K w.params).In base->base.Ns mainGlobals mg->bV l.prog w (K w.params) mg base (CX w) k fa fd [x] (sp w))
  (hsp:∀ (w:World) (H:Hp) (a:Addr) (ns:List Int),ns.length<=n->zj ts H->(∀ T∈ts,H T=some (.tbl #[]))->SqL (K w.params) H a (ns.map V.int)->sp w [.ref a] H (λ v _=>v=.bl true) λ _ _ _=>False)
  (hCX:∀ (w:World) (H:Hp) (s:Shared) (e:Value) (s':Shared),CX w [] H s (λ _ _ _=>False) e s'->False) :
  PySem.W.WalkO q loose XP YP l.row.toRowW d [] (λ f vs=>PySem.call f vs):=by
 refine Att.ql hn hdf λ w s₀ s₁ mg mb fa o pm cd doc a vs ns G Y ho hd hcd hmg hobj hints hlen hg=>?_
 obtain ⟨KX,hTb⟩:=hY w _ Y
 obtain ⟨fd,hb,hF⟩:=F w mg fa _ KX G.T.g hmg
 exact v7 KX G.T.g G.T.b G.T.builtins G.T.nolimit (let ⟨bm,ob,b1,b2,b3,b4,b5,b6⟩:=G.T.bmain; let ⟨mm,hmm,_⟩:=(G.T.seer hq).mods; ⟨⟨bm,ob,b1,b2,b3,b4,b5,b6⟩,mm,hmm⟩) hg hobj hints (Nat.le_trans hlen hn2) hr ts (λ T h=>⟨(hT w T h).1,(hT w T h).2,hTb T h⟩) hF hb (λ H hO hB hS=>hsp w H a ns hlen hO hB hS) λ H e s'=>hCX w H s₁ e s'
end L2
namespace D
open PySem PySem.Spec PyProof.Rows L2
section
variable {P:Program}{w:World}{K:PySem.W.Frag}{mg:Str->Option Value}{base:Heap}
theorem abD {x qual:Str}{st:Stmt}{f cd:Addr}{fd:FuncData}{N ps:List Str}{k:Nat}{sp:SpD}{t:TSd}(F:Fun K x qual st f fd)(hcd:fd.code=.ref cd)(S:aG N ps (ai st))(len:∀ ws M Q,sp ws M Q->ws.length=ps.length)
  (hbody:∀ (A:Around) (outer:List Env) (s:Shared) (H:Hp) (E:XK),cG k (A.deeper (envOfC qual (ai st) s.heap.objs.size f (.ref cd)))->kG (uz CX0 P w K mg base N qual (ai st) f (.ref cd) A outer s H E).nox (aE st) t)
  (read:∀ ws M Q,sp ws M Q->t { nx:=λ _ M'=>Q (.d .none) M',rt:=Q } (aQ N ws) M):bV P w K mg base CX0 (k+1) f fd ps (de K sp):=by
 obtain ⟨oc,od,kV,doc,pm,an,cdv,ct,osl,e,lk,hcdv⟩:=F.ex
 subst e
 have e2:cdv=.ref cd:=hcd
 subst e2
 refine yR lk hcdv S (λ vs H Q E h=>?_) (λ A outer s H vs Q E hr h=>?_)
 ·obtain ⟨ws,M,Qd,r,_,q,_⟩:=h
  rw [<- r.length]
  exact len _ _ _ q
 ·obtain ⟨ws,M,Qd,r,m,q,kk⟩:=h
  refine ⟨_,(hbody A outer s H E hr).nox,aQ N ws,M,_,hU r m,read ws M Qd q,λ σ' H' τ' M' kp A' q'=>?_,λ v H' w' M' kp r' m' q'=>?_,λ σ' H' τ' M' kp A' q'=>q'.elim,λ σ' H' τ' M' kp A' q'=>q'.elim⟩
  ·exact kk _ H' _ M' kp (by simp [az,ay]) A'.mem q'
  ·exact kk v H' w' M' kp r' m' q'
end
def M1T (T:Addr)(q:Str)(lpos:Pos):MH:=λ b=>if b=T then some (.code q lpos) else none
theorem t7 {K:PySem.W.Frag}{H:Hp}{a T:Addr}{q:Str}{lpos:Pos}{ns:List Int}{sp:SpD}(hl:ns.length<=63)(hO:L2.zj [T] H)(hT:∀ x∈[T],H x=some (.tbl #[]))(hS:L2.SqL K H a (ns.map V.int))(h:∀ ns:List Int,ns.length<=63->sp [.d (.list (ns.map PyData.int))] (M1T T q lpos) (λ w _=>w=.d (.bool true))) :
  de K sp [.ref a] H (λ v _=>v=.bl true) λ _ _ _=>False:=by
 refine ⟨[.d (.list (ns.map PyData.int))],M1T T q lpos,_,.cons ?_ .nil,λ a o z=>?_,h ns hl,λ v H' w M' kp r m q=>?_⟩
 ·simp only [az,ay]
  refine ⟨a,_,rfl,?_,bj.ints ns⟩
  rcases hS with (h | h) | h
  ·rcases hO a with z | ⟨ob,xs,z⟩ | ⟨_,z⟩
   ·rw [h] at z; cases z
   ·rw [h] at z; cases z
   ·rw [h] at z; cases z
  ·exact .inl h
  ·exact .inr h
 ·unfold M1T at z
  split at z
  ·cases z
   rename_i e
   subst e
   exact ⟨#[],hT _ (by simp),trivial,.inl rfl⟩
  ·cases z
 ·subst q
  simp only [az,ay] at r
  exact r
end D
namespace D
open PySem PySem.Spec PyProof.Rows L2
def aap (sc scX:Scope)(x:Str)(N:List Str)(fr:List Nat):Bool :=
 (sc.kind == .function) && !sc.isCoroutine && !sc.isGenerator && sc.names.all (λ y=>!(y.2 == .cell)) && sc.names.all (λ y=>!(y.2 == .free) || scX.names.lookup y.1 == some .cell || scX.names.lookup y.1 == some .free) &&
  (sc.names.lookup x == some .local) && aen N sc fr
theorem afN {X:Cx}{sc:Scope}{x:Str}{fr:List Nat}(h:aap sc X.env.scope x X.N fr=true):oY X sc x fr:=by
 simp only [aap,Bool.and_eq_true,Bool.not_eq_true'] at h
 obtain ⟨⟨⟨⟨⟨⟨h1,h2⟩,h3⟩,h4⟩,h5⟩,h6⟩,h7⟩:=h
 refine ⟨eq_of_beq h1,h2,h3,λ y hy e=>?_,λ y hy e=>?_,eq_of_beq h6,h7⟩
 ·have:=List.all_eq_true.mp h4 y hy
  simp [e] at this
 ·have:=List.all_eq_true.mp h5 y hy
  simp only [e,beq_self_eq_true,Bool.not_true,Bool.false_or,Bool.or_eq_true] at this
  rcases this with z | z
  ·exact .inl (eq_of_beq z)
  ·exact .inr (eq_of_beq z)
end D
namespace D
open PySem PySem.Spec PyProof.Rows L2
section
variable {X:Cx}{o i e:Expr}{to ti te:TD}{op:Operator}{f:Int->Int->Int}{pos tpos:Pos}
theorem get_dict (hu:X.A.units+1 < cLine):afX X (λ o i H Q=>∃ a kvs k v,o=.ref a/\i=kV k/\H a=some (.dK kvs)/\nK kvs k=some v/\Q v H):=by
 intro pins s σ H o i ov iv Q I ro ri h
 obtain ⟨a,kvs,k,v,eo,ei,e,l,q⟩:=h
 subst eo ei
 cases (show ov=Value.ref a from ro)
 exact (lr hu I (.inl (.inl e)) l ri λ w' s' I' r'=>⟨v,H,I',r',q⟩).2
def u7 (to ti te:TD)(f:Int->Int->Int)(D:Ed)(τ:DS)(M:MH):Prop:=to τ M λ w M1=>ti τ M1 λ w' M2=>∃ a kvs k n,w=.m a/\w'=kW k/\M2 a=some (.dic kvs)/\fq kvs k=some (.d (.int n))/\kvs.length < sizeLine /\
 te τ M2 λ y M3=>∃ n',y=.d (.int n')/\M3=M2/\D.nx τ (aK M3 a (.dic (p9 kvs k (.d (.int (f n n'))))))
theorem vJ (hu:X.A.units+1 < cLine)(ho:PD X o to)(hi:PD X i ti)(he:PD X e te)(hp:PIp X op (ipI f))
  (ha:∀ ov iv new,augStore i ov iv new=(do holding [new,ov,iv] (setItem ov iv new); release [new,ov,iv] []; pure .next):=by intros; rfl):PSd X (.AugAssign (.Subscript o i tpos) op e pos) (u7 to ti te f) :=
 tG (vG ho hi (get_dict hu) he hp (set_dict hu) ha) λ D σ H h=>by
  obtain ⟨τ,M,Dd,A,h,k1,_⟩:=h
  refine ⟨τ,M,_,A,h,λ x H1 wo M1 kp1 r1 m1 q1=>⟨τ,M1,_,A.go kp1 m1,q1,λ y H2 wi M2 kp2 r2 m2 q2=>?_⟩⟩
  obtain ⟨a,kvs,key,n,e1,e2,hm,hn,hl,q⟩:=q2
  subst e1; subst e2
  simp only [az] at r1
  obtain ⟨l,e3,pr⟩:=m2 a _ hm
  have g:=kd key pr
  rw [hn] at g
  obtain ⟨b,eb,rb⟩:=OR.some_of g
  simp only [az,ay] at rb
  refine ⟨a,l,key,b,r1,hZ r2,e3,eb,?_⟩
  refine ⟨τ,M2,_,A.go (kp1.trans kp2) m2,q,λ z H3 wz M3 kp3 r3 m3 q3=>?_⟩
  obtain ⟨n',e5,e6,qn⟩:=q3
  subst e5; subst e6
  simp only [az,ay] at r3
  refine ⟨n,n',rb,r3,?_⟩
  obtain ⟨l',e3',pr'⟩:=m3 a _ hm
  have kp:=(kp1.trans kp2).trans kp3
  have kp4:Kp H3 (upd H3 a (.dK (putK l' key (.int (f n n'))))):=Kp.set e3' (λ _ z=>nomatch z) (λ _ _ z=>nomatch z)
  refine ⟨a,_,r1,.inl ⟨l',key,e3',hZ r2,by rw [<- jq pr']; exact hl,rfl⟩,?_⟩
  have rv':az X.K H3 (.d (.int (f n n'))) (.int (f n n')):=by simp [az,ay]
  refine k1 σ _ τ _ (kp.trans kp4) (A.go (kp.trans kp4) (m3.put (mo:=.dic (p9 kvs key (.d (.int (f n n'))))) kp4 ⟨_,au,?_⟩)) qn
  exact Paired.je (sF key rv' pr') λ p q z=>⟨z.1,z.2.keep kp4⟩
end
namespace Q
theorem mz {X:Cx}{o i e:Expr}{to ti te:TD}{op:Operator}{f:Int->Int->Int}{pos tpos:Pos}(hu:X.A.units+1 < cLine)(ho:Jd (PD X o to))(hi:Jd (PD X i ti))(he:Jd (PD X e te))(hp:PIp X op (ipI f))
  (ha:∀ ov iv new,augStore i ov iv new=(do holding [new,ov,iv] (setItem ov iv new); release [new,ov,iv] []; pure .next):=by intros; rfl):Jd (PSd X (.AugAssign (.Subscript o i tpos) op e pos) (u7 to ti te f)):=⟨D.vJ hu ho.h hi.h he.h hp ha⟩
end Q
end D
namespace D
open PySem PySem.Spec PyProof.Rows L2
theorem aeT:bootBuiltins "any" = some (.builtin "any"):=by decide +kernel
section
variable {X:Cx}{K:PySem.W.Frag}
theorem rP:∀ {us:List Value} {ns:List Int},IntsAre us ns->∀ (i:Nat) (v:Value),us[i]? = some v->∃ n t,ns[i]? = some n/\v=.int n t
 | _,_,.nil,i,v,e=>by simp at e
 | _,_,.cons n t h,0,v,e=>by simp at e; exact ⟨n,t,rfl,e.symm⟩
 | _,_,.cons n t h,i+1,v,e=>by
  obtain ⟨m,t',e1,e2⟩:=rP h i v (by simpa using e)
  exact ⟨m,t',by simpa using e1,e2⟩
theorem vU:∀ {ns:List Int} {kvs:List (Key×V)} {vs:List (Key×Value)},KV kvs vs->kvs.map (·.2)=ns.map V.int->IntsAre (vs.map (·.2)) ns:=λ {ns kvs vs} r h=>by
 refine fG r h (by simp) λ i v hi=>?_
 rw [List.getElem?_map] at hi
 cases e:vs[i]? with
 | none=>rw [e] at hi; cases hi
 | some p=>rw [e] at hi; cases hi; exact ⟨p.1,rfl⟩
theorem xV (hc:X.calm=true):dY X (.builtin "any") (λ xs H Q=>∃ v a kvs,∃ ns:List Int,xs=[.ref v]/\H v=some (.ext λ h=>h.IsValuesView v a)/\Rd H a (.dK kvs)/\kvs.map (·.2)=ns.map V.int/\Q (.bl (ns.any λ n=>n != 0)) H):=by
 intro pins s σ H xs us Q I r h
 obtain ⟨v,a,kvs,ns,rfl,hv,hr,hk,q⟩:=h
 obtain ⟨u,rfl,rx⟩:=vals1 r
 cases (show u=Value.ref v from rx)
 obtain ⟨hsz,hsys,vs,rel,oo,es,ep,hd⟩:=hr.ok I.hok
 obtain ⟨hview,_⟩:=(show bX X.prog X.w H s.heap v (.ext λ h=>h.IsValuesView v a) from I.hok v _ hv)
 have hI:=vU rel hk
 have hln:vs.length=ns.length:=by simpa using hI.length
 obtain ⟨oI,St,hit,W,st⟩:=(PySem.W.kdl_values (knd:=aX X.prog X.w) (r:=v) (d:=a) (kvs:=vs) (ep:=ep)).iter X.A.in1 s (I.ok.hd hc) ⟨hview,⟨oo,es,hd⟩⟩
 refine call_any_walk (hit _ _ ⟨s.heap.objs.size,_,_,vs.length,_,_,λ i=>((ns.map λ n=>n != 0)[i]?).getD false,rfl,W,st,λ i x s' Q' E' hP hQ=>?_,λ h' tk hk'=>?_⟩)
 ·obtain ⟨k,hx⟩:=hP
  obtain ⟨n,t,e1,rfl⟩:=rP hI i x (by rw [List.getElem?_map,hx]; rfl)
  simp only [List.getElem?_map,e1,Option.map_some,Option.getD_some] at hQ
  exact truthy_int hQ
 ·have e:((List.range vs.length).any λ i=>((ns.map λ n=>n != 0)[i]?).getD false)=ns.any λ n=>n != 0:=by
   have:=LSm.range_any (ns.map λ n=>n != 0)
   rw [List.length_map,<- hln] at this
   rw [this,List.any_map]
   rfl
  rw [e]
  exact ⟨.bl _,H,I.kept (LSm.kept_iter hk'),rfl,q⟩
variable {o e:Expr}{to:TE}{td te:TD}{apos cpos p pos:Pos}
def afI (xs:List V)(H:Hp)(Q:VK):Prop:=∃ v a kvs,∃ ns:List Int,xs=[.ref v]/\H v=some (.ext λ h=>h.IsValuesView v a)/\Rd H a (.dK kvs)/\kvs.map (·.2)=ns.map V.int/\Q (.bl (ns.any λ n=>n != 0)) H
theorem aaS (hc:X.calm=true)(hg:Gl X "any")(hm:X.mg "any" = none)(ho:PE X o to)(hbase:attributeBase o "values" X.env (eval o X.env)=eval o X.env:=by rfl)(hline:(apos.endLine == cpos.line)=true:=by rfl) :
  PE X (.Call (.Name "any" p) [.Call (.Attribute o "values" apos) [] [] cpos] [] pos) (tCB afI (uc (ab3 to) aab)) :=
 jl (xV hc) hg hm aeT (gF (vX ho hbase hline) lE) (by decide) (by decide) (bK _ [] X.env rfl) (cE pos X.env [] rfl)
def acL (td:TD)(τ:DS)(M:MH)(Q:QD):Prop:=td τ M λ w M1=>∃ a kvs,∃ ns:List Int,w=.m a/\M1 a=some (.dic kvs)/\kvs.map (·.2)=gE ns/\Q (.d (.bool (ns.any λ n=>n != 0))) M1
theorem zC (hc:X.calm=true)(hg:Gl X "any")(hm:X.mg "any" = none)(ho:PD X o td)(hbase:attributeBase o "values" X.env (eval o X.env)=eval o X.env:=by rfl)(hline:(apos.endLine == cpos.line)=true:=by rfl) :
  PD X (.Call (.Name "any" p) [.Call (.Attribute o "values" apos) [] [] cpos] [] pos) (acL td):=eO (aaS hc hg hm ho hbase hline) λ σ H Q hq107=>by
 obtain ⟨τ,M,Qd,A,h,k⟩:=hq107
 refine ⟨τ,M,_,A,h,λ x H1 w M1 kp1 r1 m1 hq108=>?_⟩
 obtain ⟨a,kvs,ns,ew,hmm,hk,q⟩:=hq108
 subst ew
 obtain ⟨l,e,pr⟩:=m1 _ _ hmm
 refine ⟨a,l,r1,.inl e,λ v hv=>?_⟩
 have na:a≠v:=λ z=>by rw [z,hv] at e; cases e
 have kp2:Kp H1 (upd H1 v (.ext λ h=>h.IsValuesView v a)):=Kp.new hv
 exact ⟨v,a,l,ns,rfl,au,.inl (by rw [ao na]; exact e),qA hk pr,kgo k kp1 _ _ (.d (.bool _)) _ kp2 (by simp [az,ay]) (m1.new hv) q⟩
theorem t8 (hc:X.calm=true):dY X (.type "list") (λ xs H Q=>∃ a kvs,∃ zs:List Str,xs=[.ref a]/\Rd H a (.dK kvs)/\kvs.map (·.1)=zs.map Sum.inr/\∀ l,H l=none->Q (.ref l) (upd H l (.lst (zs.map V.str)))):=by
 intro pins s σ H xs us Q I r h
 obtain ⟨a,kvs,zs,rfl,hq,hk,q⟩:=h
 obtain ⟨u,rfl,rx⟩:=vals1 r
 cases rx
 obtain ⟨hsz,hsys,vs,rel,o,es,ep,hd⟩:=hq.ok I.hok
 have hvs:vs.map (·.1)=zs.map Sum.inr:=by
  rw [<- hk]
  clear hk hd hq hsz
  induction rel with
  | nil=>rfl
  | cons r t ih=>simp only [List.map_cons,ih,r.1]
 have hln:vs.length=zs.length:=by simpa using congrArg List.length hvs
 have hkl:kvs.length=zs.length:=by simpa using congrArg List.length hk
 refine PySem.W.kdl_call (PySem.W.kdl_dict (knd:=aX X.prog X.w) (kvs:=vs) (ep:=ep) hsys) (I.ok.hd hc) ⟨o,es,hd⟩ (by omega) λ h' tk acc c old hnew hacc=>?_
 have hla:acc.toList.length=vs.length:=by rw [Array.length_toList]; exact hacc.1
 have hS:StrsAre acc.toList zs:=pj hvs hla λ j v hj=>hacc.2 j v (by rw [<- Array.getElem?_toList]; exact hj)
 exact ⟨.ref _,_,I.laid (t':=tk) old (Nat.le_refl _) (show bX X.prog X.w _ h' _ (.lst (zs.map V.str)) from ⟨by rw [List.length_map]; omega,acc.toList,c,oH hS,by rw [Array.toArray_toList]; exact hnew⟩),rfl,q _ (I.hok.fresh (Nat.le_refl _))⟩
def vE (ws:List W)(M:MH)(Q:QD):Prop:=∃ a kvs,∃ zs:List Str,ws=[.m a]/\M a=some (.dic kvs)/\kvs.map (·.1)=zs.map Sum.inr/\∀ p,M p=none->Q (.m p) (aK M p (.lst (a6 zs)))
theorem zp:gf K (λ xs H Q=>∃ a kvs,∃ zs:List Str,xs=[.ref a]/\Rd H a (.dK kvs)/\kvs.map (·.1)=zs.map Sum.inr/\∀ l,H l=none->Q (.ref l) (upd H l (.lst (zs.map V.str)))) vE:=by
 intro vs H ws M Qd Q r m ⟨a,kvs,zs,e,g,hk,q⟩ k
 subst e
 obtain ⟨v,e1,r1⟩:=eL r
 have ev:v=.ref a:=r1
 subst ev
 obtain ⟨l,el,pr⟩:=m _ _ g
 refine ⟨a,l,zs,e1,.inl el,?_,λ p hp=>?_⟩
 ·rw [<- hk]
  clear hk el g
  induction pr with
  | nil=>rfl
  | cons r t ih=>simp only [List.map_cons,ih,r.1]
 ·have kp:Kp H (upd H p (.lst (zs.map V.str))):=Kp.new hp
  exact k _ _ (.m p) _ kp rfl (m.put (mo:=.lst (a6 zs)) kp ⟨_,au,oA zs⟩) (q p (m.free hp))
def acI (K:PySem.W.Frag):V->List V->Hp->VK->Prop:=λ x vs H Q=>∃ y d ds j,vs=[y]/\qB K H (.list ds) x/\qB K H d y/\acP d ds=true/\abm ds d j/\(j:Int) < 2 ^ 63 - 1/\Q (.int (j:Nat)) H
theorem xC {k:Nat}(hr:cG k X.A):MtM X "list.index" (acI X.K):=by
 intro pins s σ H x vs v us Q I rx rv h
 obtain ⟨y,d,ds,j,rfl,h1,h2,o,⟨j0,j1,j2⟩,hsm,q⟩:=h
 obtain ⟨u,rfl,ru⟩:=rv.one
 simp only [acP,kK,Bool.and_eq_true,Bool.not_eq_true'] at o
 obtain ⟨⟨o1,o2⟩,o3,o4⟩:=o
 obtain ⟨as,r2⟩:=eB I d h2 ru o2
 obtain ⟨bs,r1⟩:=eB I (.list ds) h1 rx o4
 have c3:PyData.canLayAll0 ds=true:=SeqAt.canLay_of_shaped o3
 cases r1 with
 | @list a ob its n _ as1 e1 e2 e3 e4 =>
  obtain ⟨cls,dd,data,sl⟩:=ob
  simp only at e2 e3
  subst e2 e3
  have em:=SeqAt.readsAll_map ds _ _ c3 e4
  have hlen:ds.length=its.size:=by have:=congrArg List.length em; simpa using this.symm
  have hat:∀ m (hm:m < its.size),ds[m]? = some (SeqAt.readOf s.heap its[m]):=λ m hm=>by
   rw [<- em,List.getElem?_map]
   simp [hm]
  refine call_meets F.slot_list_index ⟨_,e1,rfl⟩ F.entry_list_index (F.args_list_index_2 _ _) (SeqAt.list_indexAt a its n dd sl u (λ z=>PyData.eqv (SeqAt.readOf s.heap z) d) j (by omega) hsm (j1 _ (hat j (by omega))) (λ m hm hlt=>j2 m _ hlt (hat m hm)))
   ⟨e1,SeqAt.items_eqAt e4 r2 c3 (SeqAt.canLay_of_shaped o1) (abZ hr.h o1),⟨.int _,H,I.tok _,⟨_,rfl⟩,q⟩⟩
def qy (td te:TD)(τ:DS)(M:MH)(Q:QD):Prop:=td τ M λ w M1=>∃ ds,w=.d (.list ds)/\te τ M1 λ y M2=>∃ d j,y=.d d/\acP d ds=true/\abm ds d j/\(j:Int) < 2 ^ 63 - 1/\Q (.d (.int (j:Nat))) M2
theorem uf {k:Nat}(hr:cG k X.A)(ho:PD X o td)(he:PD X e te)
  (hbase:attributeBase o "index" X.env (eval o X.env)=eval o X.env:=by rfl)
  (hfew:((backTo cpos (starEach [e] X.env)).all (λ x=>!x.1) && (backToKw cpos (keywordEach [] X.env)).all (λ x=>x.1.isSome)
   && decide (([e]:List Expr).length+([]:List Keyword).length+(if ([]:List Keyword).isEmpty then 0 else 1) < 30))=true:=by rfl)
  (hline:(apos.endLine == cpos.line)=true:=by rfl)(hs:df e=false:=by rfl):PD X (.Call (.Attribute o "index" apos) [e] [] cpos) (qy td te) :=
 eO (xa PySem.F.plainAttrs_list PySem.F.slot_list_index PySem.F.type_list_index (xC hr) ho (pac he ag hs) hbase hfew hline (bK e [] X.env hs) rfl) λ σ H Q h=>by
  obtain ⟨τ,M,Qd,A,h,k⟩:=h
  refine ⟨τ,M,_,A,h,λ x H1 w M1 kp1 r1 m1 hq109=>?_⟩
  obtain ⟨ds,ew,q1⟩:=hq109
  subst ew
  have r1':=r1
  simp only [az,ay] at r1'
  obtain ⟨a,vs,ex,hsq,ra⟩:=r1'
  subst ex
  refine ⟨.inl ⟨rfl,vs,hsq.sq⟩,τ,M1,aev (λ y M2=>∃ d j,y=.d d/\acP d ds=true/\abm ds d j/\(j:Int) < 2 ^ 63 - 1/\Qd (.d (.int (j:Nat))) M2),A.go kp1 m1,q1,λ ys H2 wys M2 kp2 r2 m2 q2=>?_⟩
  obtain ⟨y,ey,d,j,ed,ok,hj,hsm,q4⟩:=mQ q2
  subst ey ed
  obtain ⟨v,ev,rv⟩:=eL r2
  subst ev
  exact ⟨v,d,ds,j,rfl,.inl (r1.keep kp2),.inl rv,ok,hj,hsm,k _ _ (.d (.int _)) _ (kp1.trans kp2) (by simp [az,ay]) m2 q4⟩
end
namespace Q
section
variable {X:Cx}{o e:Expr}{td te:TD}{apos cpos p pos:Pos}
theorem abS (hc:X.calm=true)(hg:Gl X "any")(hm:X.mg "any" = none)(ho:Jd (PD X o td))(hbase:attributeBase o "values" X.env (eval o X.env)=eval o X.env:=by rfl)(hline:(apos.endLine == cpos.line)=true:=by rfl) :
  Jd (PD X (.Call (.Name "any" p) [.Call (.Attribute o "values" apos) [] [] cpos] [] pos) (acL td)):=⟨D.zC hc hg hm ho.h hbase hline⟩
theorem xO {k:Nat}(hr:cG k X.A)(ho:Jd (PD X o td))(he:Jd (PD X e te))
  (hbase:attributeBase o "index" X.env (eval o X.env)=eval o X.env:=by rfl)
  (hfew:((backTo cpos (starEach [e] X.env)).all (λ x=>!x.1) && (backToKw cpos (keywordEach [] X.env)).all (λ x=>x.1.isSome)
   && decide (([e]:List Expr).length+([]:List Keyword).length+(if ([]:List Keyword).isEmpty then 0 else 1) < 30))=true:=by rfl)
  (hline:(apos.endLine == cpos.line)=true:=by rfl)(hs:df e=false:=by rfl):Jd (PD X (.Call (.Attribute o "index" apos) [e] [] cpos) (qy td te)):=⟨D.uf hr ho.h he.h hbase hfew hline hs⟩
end
end Q
end D
set_option maxHeartbeats 0
namespace D
open PySem PySem.Spec PyProof.Rows L2
section
variable {X:Cx}{a b:Expr}{rest:List Expr}{pos:Pos}{ta tb:TE}
end
section
variable {P:Program}{w:World}{A:Around}{R:Result->Shared->Prop}{it l S:Addr}{its:List Value}{ns:List Int}{kw:List (Str×Value)}
def Lst (ns:List Int)(j:Nat)(m:Int):Prop:=m∈ns.take j/\∀ x∈ns.take j,m<=x
end
section
variable {X:Cx}{K:PySem.W.Frag}{e:Expr}{te:TE}{p pos kpos kp:Pos}{j:Nat}
end
section
variable {X:Cx}{o e:Expr}{td te:TD}{apos cpos:Pos}
def ph (kvs more:List (Key×W)):List (Key×W):=more.foldl (λ acc kv=>p9 acc kv.1 kv.2) kvs
theorem sg {R:W->V->Prop}:∀ {more:List (Key×W)} {l:List (Key×V)},Paired (λ p q=>p.1=q.1/\R p.2 q.2) more l->∀ {kvs:List (Key×W)} {m:List (Key×V)},Paired (λ p q=>p.1=q.1/\R p.2 q.2) kvs m->Paired (λ p q=>p.1=q.1/\R p.2 q.2) (ph kvs more) (fu m l)
 | _,_,.nil,_,_,h=>h
 | _,_,.cons a b,_,_,h=>by
  obtain ⟨a1,a2⟩:=a
  refine sg b ?_
  dsimp only
  rw [a1]
  exact sF _ a2 h
def xv (td te:TD)(τ:DS)(M:MH)(Q:QD):Prop:=td τ M λ w M1=>∃ a kv0,w=.m a/\M1 a=some (.dic kv0)/\te τ M1 λ y M2=>∃ b kvs more,y=.m b/\M2 a=some (.dic kvs)/\M2 b=some (.dic more)/\a≠b/\kvs.length+more.length<=sizeLine/\Q (.d .none) (aK M2 a (.dic (ph kvs more)))
theorem yh (ho:PD X o td)(he:PD X e te)
  (hbase:attributeBase o "update" X.env (eval o X.env)=eval o X.env:=by rfl)
  (hfew:((backTo cpos (starEach [e] X.env)).all (λ x=>!x.1) && (backToKw cpos (keywordEach [] X.env)).all (λ x=>x.1.isSome)
   && decide (([e]:List Expr).length+([]:List Keyword).length+(if ([]:List Keyword).isEmpty then 0 else 1) < 30))=true:=by rfl)
  (hline:(apos.endLine == cpos.line)=true:=by rfl)(hs:df e=false:=by rfl):PD X (.Call (.Attribute o "update" apos) [e] [] cpos) (xv td te) :=
 eO (xa PySem.F.plainAttrs_dict PySem.F.slot_dict_update PySem.F.type_dict_update acm ho (pac he ag hs) hbase hfew hline (bK e [] X.env hs) rfl) λ σ H Q h=>by
  obtain ⟨τ,M,Qd,A,h,k⟩:=h
  refine ⟨τ,M,_,A,h,λ x H1 w M1 kp1 r1 m1 hq110=>?_⟩
  obtain ⟨a,kv0,ew,hm0,q1⟩:=hq110
  subst ew
  have r1':x=.ref a:=r1
  subst r1'
  obtain ⟨l0,ea0,_⟩:=m1 _ _ hm0
  refine ⟨?_,τ,M1,aev (λ y M2=>∃ b kvs more,y=.m b/\M2 a=some (.dic kvs)/\M2 b=some (.dic more)/\a≠b/\kvs.length+more.length<=sizeLine/\Qd (.d .none) (aK M2 a (.dic (ph kvs more)))),A.go kp1 m1,q1,λ ys H2 wys M2 kp2 r2 m2 q2=>?_⟩
  ·exact .inr (.inr (.inl ⟨rfl,.inl ⟨l0,ea0⟩⟩))
  obtain ⟨y,ey,b,kvs,more,ey2,hm2,hb2,ne,hl,q4⟩:=mQ q2
  subst ey ey2
  obtain ⟨v,ev,rv⟩:=eL r2
  subst ev
  have rv':v=.ref b:=rv
  subst rv'
  obtain ⟨l2,ea2,pr⟩:=m2 _ _ hm2
  obtain ⟨l3,eb2,pr3⟩:=m2 _ _ hb2
  have kp4:Kp H2 (upd H2 a (.dK (fu l2 l3))):=Kp.set ea2 (λ _ z=>nomatch z) (λ _ _ z=>nomatch z)
  refine ⟨a,b,l2,l3,rfl,rfl,ea2,.inl eb2,ne,by rw [<- jq pr,<- jq pr3]; exact hl,?_⟩
  refine k _ _ (.d .none) _ ((kp1.trans kp2).trans kp4) (by simp [az,ay]) (m2.put (mo:=.dic (ph kvs more)) kp4 ⟨_,au,?_⟩) q4
  exact Paired.je (sg pr3 pr) λ p q z=>⟨z.1,z.2.keep kp4⟩
end
namespace Q
section
variable {X:Cx}{a b o e:Expr}{rest:List Expr}{ta tb td te:TD}{apos cpos p pos kpos kp:Pos}{j:Nat}
theorem zu (ho:Jd (PD X o td))(he:Jd (PD X e te))
  (hbase:attributeBase o "update" X.env (eval o X.env)=eval o X.env:=by rfl)
  (hfew:((backTo cpos (starEach [e] X.env)).all (λ x=>!x.1) && (backToKw cpos (keywordEach [] X.env)).all (λ x=>x.1.isSome)
   && decide (([e]:List Expr).length+([]:List Keyword).length+(if ([]:List Keyword).isEmpty then 0 else 1) < 30))=true:=by rfl)
  (hline:(apos.endLine == cpos.line)=true:=by rfl)(hs:df e=false:=by rfl):Jd (PD X (.Call (.Attribute o "update" apos) [e] [] cpos) (xv td te)):=⟨D.yh ho.h he.h hbase hfew hline hs⟩
end
end Q
end D
namespace D
open PySem PySem.Spec PyProof.Rows L2
section
variable {X:Cx}{K:PySem.W.Frag}{pins:List (Addr×Obj)}{σ:St}{H:Hp}{s:Shared}
end
section
variable {X:Cx}{a:Expr}{p pos:Pos}{ta:TA}{t:TAd}
end
section
variable {X:Cx}{K:PySem.W.Frag}
theorem jS (ns:List Int):∀ k,k<=ns.length->preSum (λ i=>(ns[i]?).getD 0) k=(ns.take k).sum
 | 0,_=>by simp [preSum]
 | k+1,h=>by
  rw [ju,jS ns k (by omega),List.take_succ,List.sum_append]
  have hk:k < ns.length:=by omega
  simp [List.getElem?_eq_getElem hk]
theorem u9 (hc:X.calm=true):dY X (.builtin "sum") (λ xs H Q=>∃ v a kvs,∃ ns:List Int,xs=[.ref v]/\H v=some (.ext λ h=>h.IsValuesView v a)/\Rd H a (.dK kvs)/\kvs.map (·.2)=ns.map V.int/\Q (.int ns.sum) H):=by
 intro pins s σ H xs us Q I r h
 obtain ⟨v,a,kvs,ns,rfl,hv,hr,hk,q⟩:=h
 obtain ⟨u,rfl,rx⟩:=vals1 r
 cases (show u=Value.ref v from rx)
 obtain ⟨hsz,hsys,vs,rel,oo,es,ep,hd⟩:=hr.ok I.hok
 obtain ⟨hview,_⟩:=(show bX X.prog X.w H s.heap v (.ext λ h=>h.IsValuesView v a) from I.hok v _ hv)
 have hI:=vU rel hk
 have hln:vs.length=ns.length:=by simpa using hI.length
 have src:=PySem.W.kdl_values (prog:=X.prog) (w:=X.w) (knd:=aX X.prog X.w) (r:=v) (d:=a) (kvs:=vs) (ep:=ep)
 have there:=(src.there s.heap ⟨hview,⟨oo,es,hd⟩⟩).2
 obtain ⟨oI,St,hit,W,st⟩:=src.iter X.A.in1 s (I.ok.hd hc) ⟨hview,⟨oo,es,hd⟩⟩
 refine call_sum_walkG (hit _ _ ⟨s.heap.objs.size,_,_,vs.length,_,_,λ i=>(ns[i]?).getD 0,rfl,W,st,λ b hb=>?_,λ i x hP=>?_,λ h' tk t' hk'=>?_⟩)
 ·have z:b=s.heap.objs.size\/b=a:=by simpa using hb
  show b < (s.heap.push oI).objs.size
  rw [Heap.size_push]
  rcases z with z | z
  ·rw [z]; exact Nat.lt_succ_self _
  ·rw [z]; exact Nat.lt_succ_of_lt there
 ·obtain ⟨k,hx⟩:=hP
  obtain ⟨n,t,e1,rfl⟩:=rP hI i x (by rw [List.getElem?_map,hx]; rfl)
  exact ⟨t,by show Value.int n t=Value.int ((ns[i]?).getD 0) t; rw [e1]; rfl⟩
 ·have e:preSum (λ i=>(ns[i]?).getD 0) vs.length=ns.sum:=by rw [jS ns _ (by omega),hln,List.take_length]
  rw [e]
  exact ⟨.int _,H,I.kept (LSm.kept_iter hk'),⟨_,rfl⟩,q⟩
variable {o e:Expr}{to:TE}{td te:TD}{apos cpos p pos:Pos}
def afr (xs:List V)(H:Hp)(Q:VK):Prop:=∃ v a kvs,∃ ns:List Int,xs=[.ref v]/\H v=some (.ext λ h=>h.IsValuesView v a)/\Rd H a (.dK kvs)/\kvs.map (·.2)=ns.map V.int/\Q (.int ns.sum) H
theorem acj (hc:X.calm=true)(hg:Gl X "sum")(hm:X.mg "sum" = none)(ho:PE X o to)(hbase:attributeBase o "values" X.env (eval o X.env)=eval o X.env:=by rfl)(hline:(apos.endLine == cpos.line)=true:=by rfl) :
  PE X (.Call (.Name "sum" p) [.Call (.Attribute o "values" apos) [] [] cpos] [] pos) (tCB afr (uc (ab3 to) aab)) :=
 jl (u9 hc) hg hm aag (gF (vX ho hbase hline) lE) (by decide) (by decide) (bK _ [] X.env rfl) (cE pos X.env [] rfl)
def abn (td:TD)(τ:DS)(M:MH)(Q:QD):Prop:=td τ M λ w M1=>∃ a kvs,∃ ns:List Int,w=.m a/\M1 a=some (.dic kvs)/\kvs.map (·.2)=gE ns/\Q (.d (.int ns.sum)) M1
theorem ze (hc:X.calm=true)(hg:Gl X "sum")(hm:X.mg "sum" = none)(ho:PD X o td)(hbase:attributeBase o "values" X.env (eval o X.env)=eval o X.env:=by rfl)(hline:(apos.endLine == cpos.line)=true:=by rfl) :
  PD X (.Call (.Name "sum" p) [.Call (.Attribute o "values" apos) [] [] cpos] [] pos) (abn td):=eO (acj hc hg hm ho hbase hline) λ σ H Q hq111=>by
 obtain ⟨τ,M,Qd,A,h,k⟩:=hq111
 refine ⟨τ,M,_,A,h,λ x H1 w M1 kp1 r1 m1 hq112=>?_⟩
 obtain ⟨a,kvs,ns,ew,hmm,hk,q⟩:=hq112
 subst ew
 obtain ⟨l,e,pr⟩:=m1 _ _ hmm
 refine ⟨a,l,r1,.inl e,λ v hv=>?_⟩
 have na:a≠v:=λ z=>by rw [z,hv] at e; cases e
 have kp2:Kp H1 (upd H1 v (.ext λ h=>h.IsValuesView v a)):=Kp.new hv
 exact ⟨v,a,l,ns,rfl,au,.inl (by rw [ao na]; exact e),qA hk pr,kgo k kp1 _ _ (.d (.int _)) _ kp2 (by simp [az,ay]) (m1.new hv) q⟩
end
namespace Q
section
variable {X:Cx}
theorem abj {o:Expr}{td:TD}{apos cpos p pos:Pos}(hc:X.calm=true)(hg:Gl X "sum")(hm:X.mg "sum" = none)(ho:Jd (PD X o td))(hbase:attributeBase o "values" X.env (eval o X.env)=eval o X.env:=by rfl)(hline:(apos.endLine == cpos.line)=true:=by rfl) :
  Jd (PD X (.Call (.Name "sum" p) [.Call (.Attribute o "values" apos) [] [] cpos] [] pos) (abn td)):=⟨D.ze hc hg hm ho.h hbase hline⟩
end
end Q
end D
namespace D
open PySem PySem.Spec PyProof.Rows L2
section
variable {K:PySem.W.Frag}
def xg (w w':W)(M:MH)(Q:QD):Prop:=∃ a b xs ys,w=.m a/\w'=.m b/\M a=some (.lst xs)/\M b=some (.lst ys)/\xs.length+ys.length<=sizeLine/\∀ p,M p=none->Q (.m p) (aK M p (.lst (xs++ys)))
theorem aJ.app {H:Hp}:∀ {xs:List W} {vs:List V} {ys:List W} {us:List V},aJ K H xs vs->aJ K H ys us->aJ K H (xs++ys) (vs++us)
 | _,_,_,_,.nil,h=>h
 | _,_,_,_,.cons a b,h=>.cons a (aJ.app b h)
theorem rW:OpD K (aeW K) xg:=by
 intro x y H w w' M Qd Q r1 r2 m ⟨a,b,xs,ys,e1,e2,ha,hb,hz,q⟩ k
 subst e1 e2
 obtain ⟨vs,e3,p1⟩:=m _ _ ha
 obtain ⟨us,e4,p2⟩:=m _ _ hb
 have l1:=aJ.length p1
 have l2:=aJ.length p2
 refine ⟨a,b,vs,us,r1,r2,.of e3,.of e4,by omega,λ p hp=>?_⟩
 have kp:Kp H (upd H p (.lst (vs++us))):=Kp.new hp
 exact k _ _ (.m p) _ kp rfl (m.put (mo:=.lst (xs++ys)) kp ⟨_,au,aJ.keep kp (aJ.app p1 p2)⟩) (q p (m.free hp))
end
end D
namespace D
open PySem PySem.Spec PyProof.Rows L2
structure MiE (K:PySem.W.Frag)(C:Addr)(qual:Str)(st:Stmt)(ps:List Str)(f:Addr)(fd:FuncData):Prop where
 fn:ags K "__init__" qual st f fd
 mi:Mk K C f
 bd:Binds K fd ps []
 bn:Binds K fd ps [.none]
theorem ady {K:PySem.W.Frag}{C:Addr}{qual:Str}{st:Stmt}{ps:List Str}{f T:Addr}{oc oc2:Value}{od od2 an:Option Addr}{osl osl2:Array (Option Value)}{kV doc pm cdv ct:Value}{n:Nat}(a:PySem.W.findIn K (.ref C) "__init__" = some (some (.ref f)))(i:PySem.W.isFn K (.ref f)=true)
  (l:K.lookup f=some ⟨oc,od,.func (PySem.W.fnOf "__init__" qual (aN st) (aE st) (ai st) (.ref T) kV doc pm an cdv ct),osl⟩)(c:PySem.W.codeIn K cdv qual=true)(k:PySem.W.keepIn K (.ref f)=true)
  (mk:PySem.W.makesIn K C=true)(kc:PySem.W.keepIn K (.ref C)=true)(lt:K.lookup T=some ⟨oc2,od2,.seq #[.none] n,osl2⟩)
  (b:∀ (us:List Value),us.length=ps.length->∃ kk:Option (Array Value)->Sem (List (Str×Value)),bindArgs (PySem.W.fnOf "__init__" qual (aN st) (aE st) (ai st) (.ref T) kV doc pm an cdv ct) ⟨us,[]⟩=seqItems? (.ref T) >>= kk/\kk (some #[.none])=pure (ps.zip us))
  (b2:∀ (us:List Value),us.length+1=ps.length->∃ kk:Option (Array Value)->Sem (List (Str×Value)),bindArgs (PySem.W.fnOf "__init__" qual (aN st) (aE st) (ai st) (.ref T) kV doc pm an cdv ct) ⟨us,[]⟩=seqItems? (.ref T) >>= kk/\kk (some #[.none])=pure (ps.zip (us++[.none]))) :
  MiE K C qual st ps f (PySem.W.fnOf "__init__" qual (aN st) (aE st) (ai st) (.ref T) kV doc pm an cdv ct) :=
 ⟨⟨⟨oc,od,.ref T,kV,doc,pm,an,cdv,ct,osl,rfl,l,c⟩,k⟩,⟨mk,a,i,kc⟩,λ s us hK hl=>by
  rw [List.append_nil] at hl ⊢
  obtain ⟨kk,h1,h2⟩:=b us hl
  exact BindsTo.of_defaults rfl (hK T _ lt) rfl h1 h2,λ s us hK hl=>by
  obtain ⟨kk,h1,h2⟩:=b2 us (by simpa using hl)
  exact BindsTo.of_defaults rfl (hK T _ lt) rfl h1 h2⟩
section
variable {X:Cx}{pos p:Pos}{k:Nat}{f C:Addr}{fd:FuncData}{ps:List Str}{sp:SpD}{x:Str}
def vh (C:Addr)(sp:SpD)(τ:DS)(M:MH)(Q:QD):Prop:=∀ a,M a=none->sp [.m a,.d .none] (aK M a (.ins C [])) (λ v M2=>v=.d .none/\Q (.m a) M2)
theorem xb (Mk':Mk X.K C f)(F:bV X.prog X.w X.K X.mg X.base CX0 k f fd ps (de X.K sp))(hr:cG (k+1) X.A)(hg:Gl X x)(hm:X.mg x=some (.ref C))(hb:Binds X.K fd ps [.none])(hdb:(x == ("__debug__" : Str))=false:=by decide) :
  PD X (.Call (.Name x p) [] [] pos) (vh C sp) :=
 eO (yI (E:=E0) (dvs:=[.non]) Mk' F hr hg hm hb (.cons rfl .nil) vO hdb) λ σ H Q h=>by
  obtain ⟨τ,M,Qd,A,h,k⟩:=h
  intro a dx ha hd hn
  obtain ⟨kp2,m2⟩:=nJ (X:=X) (C:=C) A.mem ha hd hn
  exact ⟨[.m a,.d .none],_,_,.cons rfl (.cons (by simp [az,ay]) .nil),m2,h a (A.mem.free ha),λ v H' w M' kp3 r3 m3 hq113=>by
   obtain ⟨e3,q3⟩:=hq113
   subst e3
   simp only [az,ay] at r3
   exact ⟨r3,k _ H' (.m a) M' (kp2.trans kp3) rfl m3 q3⟩⟩
theorem Q.zq (Mk':Mk X.K C f)(F:bV X.prog X.w X.K X.mg X.base CX0 k f fd ps (de X.K sp))(hr:cG (k+1) X.A)(hg:Gl X x)(hm:X.mg x=some (.ref C))(hb:Binds X.K fd ps [.none])(hdb:(x == ("__debug__" : Str))=false:=by decide) :
  Jd (PD X (.Call (.Name x p) [] [] pos) (vh C sp)):=⟨D.xb Mk' F hr hg hm hb hdb⟩
end
end D
namespace D
open PySem PySem.Spec PyProof.Rows L2
abbrev PFn (K:PySem.W.Frag)(x:Str)(st:Stmt):Prop:=∃ (f:Addr) (oc kV dc pm cd ct:Value) (od an:Option Addr) (sl:Array (Option Value)),PySem.W.nsIn K mainGlobals x=some (some (.ref f))/\K.lookup f=some ⟨oc,od,.func (PySem.W.fnOf x x (aN st) (aE st) (ai st) .none kV dc pm an cd ct),sl⟩/\PySem.W.codeIn K cd x=true/\PySem.W.keepIn K (.ref f)=true
abbrev PMf (K:PySem.W.Frag)(C:Addr)(m x:Str)(st:Stmt):Prop:=∃ (f:Addr) (oc kV dc pm cd ct:Value) (od an:Option Addr) (sl:Array (Option Value)),PySem.W.findIn K (.ref C) m=some (some (.ref f))/\PySem.W.isFn K (.ref f)=true/\K.lookup f=some ⟨oc,od,.func (PySem.W.fnOf m x (aN st) (aE st) (ai st) .none kV dc pm an cd ct),sl⟩/\PySem.W.codeIn K cd x=true/\PySem.W.keepIn K (.ref f)=true
theorem adI {K:PySem.W.Frag}{x:Str}{st:Stmt}{f:Addr}{oc kV dc pm cd ct:Value}{od an:Option Addr}{sl:Array (Option Value)}(a:PySem.W.nsIn K mainGlobals x=some (some (.ref f)))(l:K.lookup f=some ⟨oc,od,.func (PySem.W.fnOf x x (aN st) (aE st) (ai st) .none kV dc pm an cd ct),sl⟩)(c:PySem.W.codeIn K cd x=true)(k:PySem.W.keepIn K (.ref f)=true):PFn K x st:=⟨_,_,_,_,_,_,_,_,_,_,a,l,c,k⟩
theorem adA {K:PySem.W.Frag}{C:Addr}{m x:Str}{st:Stmt}{f:Addr}{oc kV dc pm cd ct:Value}{od an:Option Addr}{sl:Array (Option Value)}(a:PySem.W.findIn K (.ref C) m=some (some (.ref f)))(i:PySem.W.isFn K (.ref f)=true)(l:K.lookup f=some ⟨oc,od,.func (PySem.W.fnOf m x (aN st) (aE st) (ai st) .none kV dc pm an cd ct),sl⟩)(c:PySem.W.codeIn K cd x=true)(k:PySem.W.keepIn K (.ref f)=true):PMf K C m x st:=⟨_,_,_,_,_,_,_,_,_,_,a,i,l,c,k⟩
theorem PFn.fn {K:PySem.W.Frag}{h:Heap}{mg:Str->Option Value}{x:Str}{st:Stmt}{ps:List Str}(p:PFn K x st)(X:K.In h)(G:h.Ns mainGlobals mg)
  (b:∀ (kV doc pm:Value) (an:Option Addr) (cdv ct:Value) (us:List Value),us.length=ps.length->bindArgs (PySem.W.fnOf x x (aN st) (aE st) (ai st) .none kV doc pm an cdv ct) ⟨us,[]⟩=pure (ps.zip us)):∃ f fd,Fn K mg x st ps f fd :=
 let ⟨f,_,_,_,_,_,_,_,_,_,a,l,c,k⟩:=p; ⟨f,_,abI X G a l c k b⟩
theorem PMf.mf {K:PySem.W.Frag}{C:Addr}{m x:Str}{st:Stmt}{ps:List Str}(p:PMf K C m x st)
  (b:∀ (kV doc pm:Value) (an:Option Addr) (cdv ct:Value) (us:List Value),us.length=ps.length->bindArgs (PySem.W.fnOf m x (aN st) (aE st) (ai st) .none kV doc pm an cdv ct) ⟨us,[]⟩=pure (ps.zip us)):∃ f fd,Mf K C m x st ps f fd :=
 let ⟨f,_,_,_,_,_,_,_,_,_,a,i,l,c,k⟩:=p; ⟨f,_,aaY a i l c k b⟩
abbrev ZZ (P:Program)(w:World)(K:PySem.W.Frag)(mg:Str->Option Value)(base:Heap)(F:Addr->FuncData->Prop)(n:Nat)(ps:List Str)(sp:SpD):Prop:=∃ f fd,F f fd/\bV P w K mg base CX0 n f fd ps (de K sp)
end D
namespace L2
open PySem PySem.Spec PyProof.Rows
structure ahE (P:Program)(w:World)(K:PySem.W.Frag)(mg:Str->Option Value)(base:Heap)(CX:CXT)(k:Nat)(f:Addr)(fd:FuncData)(ps:List Str)(sp:Sp):Prop where
 len:∀ vs H Q E,sp vs H Q E->vs.length=ps.length
 run:∀ (A:Around) (outer:List Env) (s:Shared) (H:Hp) (args:Args) (us:List Value) (vs:List V) (Q:VK) (E:XK),mj k A->aat P w K mg base A outer s H->BindsTo s fd args (ps.zip us)->Vals vs us->sp vs H Q E ->
  codeAny (model P w) A (.call (.ref f) args) (CR CX outer P w H s Q E) s
section
variable {X:Cx}{CX:CXT}{k:Nat}{f C:Addr}{fd:FuncData}{ps:List Str}{sp:Sp}{dvs:List V}{ds:List Value}{E:XK}{x m:Str}{p pos apos:Pos}{e o:Expr}{es:List Expr}{ta:TE}{t:TA}
end
section
variable {P:Program}{w:World}{K:PySem.W.Frag}{mg:Str->Option Value}{base:Heap}
end
end L2
namespace D
open PySem PySem.Spec PyProof.Rows L2
section
variable {P:Program}{w:World}{K:PySem.W.Frag}{mg:Str->Option Value}{base:Heap}
end
section
variable {X:Cx}{pos p:Pos}{k:Nat}{f:Addr}{fd:FuncData}{ps:List Str}{sp:SpD}{x:Str}{e:Expr}{es:List Expr}{t:TAd}
end
namespace Q
section
variable {X:Cx}{pos p:Pos}{k:Nat}{f:Addr}{fd:FuncData}{ps:List Str}{sp:SpD}{x:Str}{e:Expr}{es:List Expr}{t:TAd}
end
end Q
end D
namespace D
open PySem PySem.Spec PyProof.Rows L2 XO
section
variable {X:Cx}{pos p:Pos}{k:Nat}{f C:Addr}{fd:FuncData}{ps:List Str}{sp:SpX}{x:Str}{e:Expr}{es:List Expr}{t:TAd}{E:XE}
end
section
variable {X:Cx}{K:PySem.W.Frag}
end
namespace Q
section
variable {X:Cx}{pos p:Pos}{k:Nat}{f C:Addr}{fd:FuncData}{ps:List Str}{sp:SpX}{x:Str}{e:Expr}{es:List Expr}{t:TAd}{E:XE}
end
end Q
end D
namespace PySem.AutoSeq1
open PySem.MeetsSeq PySem.MeetsSeq2 PySem.MeetsSeq3 PyProof.Rows
theorem uM (l:Addr)(items:Array Value)(n:Nat)(b:Addr)(items2:Array Value)(n2:Nat)(sl:Array (Option Value))(hc0:¬(!items.isEmpty && Builtin.List.listTooLong (items.size+items2.size))=true)(hc1:items.size<=sizeLine)(hs2:items.size+items2.size<=sizeLine+1) :
  Meets (Builtin.«list.extend» ⟨[.ref l,.ref b],[]⟩) (λ _ R s=>s.heap.get? l=some { cls:=.type "list",dict:=none,data:=.seq items n,slots:=#[] }/\s.heap.get? b=some { cls:=.type "list",dict:=none,data:=.seq items2 n2,slots:=sl }/\R (.ok (.ret Value.none)) { s with heap:=s.heap.update l (Obj.mapSeq λ x=>x++items2),toks:=s.toks }) :=
 .of_wp λ prog w A R s h=>by
  obtain ⟨hp,g,d,tk,os⟩:=s; obtain ⟨hl,hb,h⟩:=h; have f1:=idx_int; have f2:=sub_tuple_tuple; have f3:=sub_list_list; have f4:=sub_tuple_list; have f5:=sub_list_tuple;
  have hz':(items++items2).size<=sizeLine+1:=by rw [Array.size_append]; exact hs2
  wp_walk using (wpAny_updateSeq hl rfl (hz:=hc1) (_hz':=hz')),wpAny_loadPart' hl,wpAny_loadPart' hb; exact ⟨_,rfl,h⟩
end PySem.AutoSeq1
namespace D
open PySem PySem.Spec PyProof.Rows L2
section
variable {X:Cx}{K:PySem.W.Frag}
def qU (K:PySem.W.Frag):V->List V->Hp->VK->Prop:=λ x vs H Q=>∃ l xs y ys,x=.ref l/\vs=[.ref y]/\H l=some (.lst xs)/\SqL K H y ys/\xs.length+ys.length<=sizeLine/\Q .non (upd H l (.lst (xs++ys)))
theorem pR:MtM X "list.extend" (qU X.K):=by
 intro pins s σ H x vs v us Q I rx rv h
 obtain ⟨l,xs,y,ys,rfl,rfl,hH,hy,hz,q⟩:=h
 cases rx
 obtain ⟨u1,rfl,ru1⟩:∃ u1,us=[u1]/\RelV (.ref y) u1:=by
  cases rv with
  | cons a b=>cases b; exact ⟨_,rfl,a⟩
 cases ru1
 obtain ⟨z,its,n,r,hl,e⟩:=I.adD hH
 obtain ⟨its2,r2,⟨o2,n2,e2,c2,d2,s2⟩,hz2⟩:=I.list hy
 have l1:=r.length
 have l2:=r2.length
 have e2':s.heap.get? y=some { cls:=.type "list",dict:=none,data:=.seq its2.toArray n2,slots:=o2.slots }:=by rw [e2]; cases o2; simp_all
 have nl:¬(!its.toArray.isEmpty && Builtin.List.listTooLong (its.toArray.size+its2.toArray.size))=true:=by
  rw [List.size_toArray,List.size_toArray]
  have:Builtin.List.listTooLong (its.length+its2.length)=false:=by
   unfold Builtin.List.listTooLong
   exact decide_eq_false (by omega)
  rw [this,Bool.and_false]
  exact Bool.false_ne_true
 refine call_meets F.slot_list_extend ⟨_,e,rfl⟩ F.entry_list_extend (F.args_list_extend_2 _ _) (AutoSeq1.uM l its.toArray n y its2.toArray n2 o2.slots nl (by rw [List.size_toArray]; omega) (by rw [List.size_toArray,List.size_toArray]; omega)) ⟨e,e2',?_⟩
 exact ⟨.non,_,I.afk (its':=its++its2) hH e (by simp) (r.append r2) (by rw [List.length_append]; exact hz),rfl,q⟩
variable {o e:Expr}{td te:TD}{apos cpos:Pos}
def qc (td te:TD)(τ:DS)(M:MH)(Q:QD):Prop:=td τ M λ w M1=>∃ a ws,w=.m a/\M1 a=some (.lst ws)/\te τ M1 λ y M2=>∃ ds ws',y=.d (.list ds)/\M2 a=some (.lst ws')/\ws'.length+ds.length<=sizeLine/\Q (.d .none) (aK M2 a (.lst (ws'++ds.map W.d)))
theorem uX (ho:PD X o td)(he:PD X e te)
  (hbase:attributeBase o "extend" X.env (eval o X.env)=eval o X.env:=by rfl)
  (hfew:((backTo cpos (starEach [e] X.env)).all (λ x=>!x.1) && (backToKw cpos (keywordEach [] X.env)).all (λ x=>x.1.isSome)
   && decide (([e]:List Expr).length+([]:List Keyword).length+(if ([]:List Keyword).isEmpty then 0 else 1) < 30))=true:=by rfl)
  (hline:(apos.endLine == cpos.line)=true:=by rfl)(hs:df e=false:=by rfl):PD X (.Call (.Attribute o "extend" apos) [e] [] cpos) (qc td te) :=
 eO (xa PySem.F.plainAttrs_list PySem.F.slot_list_extend PySem.F.type_list_extend pR ho (pac he ag hs) hbase hfew hline (bK e [] X.env hs) rfl) λ σ H Q h=>by
  obtain ⟨τ,M,Qd,A,h,k⟩:=h
  refine ⟨τ,M,_,A,h,λ x H1 w M1 kp1 r1 m1 hq114=>?_⟩
  obtain ⟨a,ws,ew,hm,q1⟩:=hq114
  subst ew
  obtain ⟨vs,ea,ra⟩:=m1 _ _ hm
  have r1':x=.ref a:=r1
  subst r1'
  refine ⟨.inl ⟨rfl,vs,.inl (.inl ea)⟩,τ,M1,aev (λ y M2=>∃ ds ws',y=.d (.list ds)/\M2 a=some (.lst ws')/\ws'.length+ds.length<=sizeLine/\Qd (.d .none) (aK M2 a (.lst (ws'++ds.map W.d)))),A.go kp1 m1,q1,λ ys H2 wys M2 kp2 r2 m2 q2=>?_⟩
  obtain ⟨y,ey,ds,ws',ed,hm2,hl,q4⟩:=mQ q2
  subst ey ed
  obtain ⟨v,ev,rv⟩:=eL r2
  subst ev
  simp only [az,ay] at rv
  obtain ⟨b,zs,rfl,hs,rz⟩:=rv
  obtain ⟨vs2,ea2,ra2⟩:=m2 _ _ hm2
  have kp4:Kp H2 (upd H2 a (.lst (vs2++zs))):=Kp.set ea2 (λ _ z=>nomatch z) (λ _ _ z=>nomatch z)
  refine ⟨a,vs2,b,zs,rfl,rfl,ea2,hs.sq,by rw [<- ra2.length,rz.length]; exact hl,?_⟩
  exact k _ _ (.d .none) _ ((kp1.trans kp2).trans kp4) (by simp [az,ay]) (m2.put (mo:=.lst (ws'++ds.map W.d)) kp4 ⟨_,au,(aJ.append ra2 rz.ws).keep kp4⟩) q4
end
section
variable {X:Cx}{pos p kpos:Pos}{k:Nat}{f C:Addr}{fd:FuncData}{ps:List Str}{sp:SpD}{x kn:Str}{e:Expr}{te:TD}
def KB1 (K:PySem.W.Frag)(fd:FuncData)(ps:List Str)(kn:Str):Prop:=∀ (s:Shared) (a u:Value),K.In s.heap->BindsTo s fd ⟨[a],[(kn,u)]⟩ (ps.zip [a,u])
structure MiF (K:PySem.W.Frag)(C:Addr)(qual:Str)(st:Stmt)(ps:List Str)(kn:Str)(f:Addr)(fd:FuncData):Prop where
 e:MiE K C qual st ps f fd
 bk:KB1 K fd ps kn
theorem MiF.fn {K:PySem.W.Frag}{C:Addr}{qual:Str}{st:Stmt}{ps:List Str}{kn:Str}{f:Addr}{fd:FuncData}(h:MiF K C qual st ps kn f fd):ags K "__init__" qual st f fd:=h.e.fn
theorem ada {K:PySem.W.Frag}{C:Addr}{qual:Str}{st:Stmt}{ps:List Str}{f T:Addr}{oc2:Value}{od2 an:Option Addr}{osl2:Array (Option Value)}{kV doc pm cdv ct:Value}{n:Nat}{kn:Str}(lt:K.lookup T=some ⟨oc2,od2,.seq #[.none] n,osl2⟩)
  (e:MiE K C qual st ps f (PySem.W.fnOf "__init__" qual (aN st) (aE st) (ai st) (.ref T) kV doc pm an cdv ct))
  (b:∀ (a u:Value),∃ kk:Option (Array Value)->Sem (List (Str×Value)),bindArgs (PySem.W.fnOf "__init__" qual (aN st) (aE st) (ai st) (.ref T) kV doc pm an cdv ct) ⟨[a],[(kn,u)]⟩=seqItems? (.ref T) >>= kk/\kk (some #[.none])=pure (ps.zip [a,u])) :
  MiF K C qual st ps kn f (PySem.W.fnOf "__init__" qual (aN st) (aE st) (ai st) (.ref T) kV doc pm an cdv ct):=⟨e,λ s a u hK=>by
  obtain ⟨kk,h1,h2⟩:=b a u
  exact BindsTo.of_defaults rfl (hK T _ lt) rfl h1 h2⟩
def w6 (C:Addr)(sp:SpD)(te:TD)(τ:DS)(M:MH)(Q:QD):Prop:=te τ M λ w M1=>∀ a,M1 a=none->sp [.m a,w] (aK M1 a (.ins C [])) (λ v M2=>v=.d .none/\Q (.m a) M2)
theorem vK (Mk':Mk X.K C f)(F:bV X.prog X.w X.K X.mg X.base CX0 k f fd ps (de X.K sp))(hr:cG (k+1) X.A)(hg:Gl X x)(hm:X.mg x=some (.ref C))(hb:KB1 X.K fd ps kn)(he:PD X e te)(hdb:(x == ("__debug__" : Str))=false:=by decide) :
  PD X (.Call (.Name x p) [] [⟨some kn,e,kpos⟩] pos) (w6 C sp te):=by
 intro pins s σ H Q I h
 obtain ⟨τ,M,Qd,A,h,k⟩:=h
 refine wpAny_Call_Name_kw (gB I hg hm ?_ hdb)
 refine PySem.W.callWith_KW0 (h₀:=X.base) I.ok.mod.kin Mk'.kp rfl ?_ rfl
 show wpAny _ _ (evalAll [(do let v <- eval e X.env; standAt pos; pure v)]) _ _ s
 refine wpAny_evalAll_cons (wpAny_bind (thn (he pins s σ H (λ v H1=>∃ w M1,Kp H H1/\az X.K H1 w v/\cm X.K H1 M1/\∀ a,M1 a=none->sp [.m a,w] (aK M1 a (.ins C [])) (λ v M2=>v=.d .none/\Qd (.m a) M2)) I
  ⟨τ,M,_,A,h,λ v H1 w M1 kp r m q=>⟨w,M1,kp,r,m,q⟩⟩) λ u s1 ⟨v,H1,I1,r,w,M1,kp,rw,m1,q⟩=>wpAny_bind (wpAny_standAt (wpAny_pure (wpAny_evalAll_nil ⟨I1.kIn,?_⟩)))))
 show wpAny _ _ (call (.ref C) [] [(kn,u)]) _ _ s1
 have J:=Inv.made (C:=C) I1
 have ha:=I1.hok.fresh (Nat.le_succ s1.heap.objs.size)
 have hd:=I1.hok.fresh (Nat.le_refl s1.heap.objs.size)
 obtain ⟨kp2,m2⟩:=nJ (X:=X) (C:=C) m1 ha hd (Nat.ne_of_lt (Nat.lt_succ_self _))
 have r2:Vals [V.ref (s1.heap.objs.size+1),v] [Value.ref (s1.heap.objs.size+1),u]:=.cons rfl (.cons r .nil)
 have q':de X.K sp [V.ref (s1.heap.objs.size+1),v] (upd (upd H1 s1.heap.objs.size (.own (s1.heap.objs.size+1))) (s1.heap.objs.size+1) (.ins C s1.heap.objs.size [])) (λ v H2=>v=.non/\Q (.ref (s1.heap.objs.size+1)) H2) E0 :=
  ⟨[.m (s1.heap.objs.size+1),w],_,_,.cons rfl (.cons (rw.keep kp2) .nil),m2,q _ (m1.free ha),λ v H' w M' kp3 r3 m3 hq115=>by
   obtain ⟨e3,q3⟩:=hq115
   subst e3
   simp only [az,ay] at r3
   exact ⟨r3,k _ H' (.m _) M' ((kp.trans kp2).trans kp3) rfl m3 q3⟩⟩
 refine wpAny_call (sP (f:=f) I1.kIn Mk'.makes Mk'.init (beq_iff_eq.mp Mk'.fn) (codeAny_mono (F.run _ X.stack _ _ ⟨[Value.ref (s1.heap.objs.size+1)],[(kn,u)]⟩ _ _ _ E0 (hr.make C [] [(kn,u)]) (J.ac2.make C [] [(kn,u)]) (hb _ _ _ J.kIn) r2 q') λ r s' hq=>?_))
 cases r with
 | error e=>exact hq.elim
 | ok fl =>
  cases fl with
  | ret u =>
   obtain ⟨v,H',I3,rv,ev,q3⟩:=J.after hq
   subst ev
   exact ⟨rv,⟨V.ref (s1.heap.objs.size+1),H',I3,rfl,q3⟩⟩
  | next=>exact False.elim hq
  | brk=>exact False.elim hq
  | cont=>exact False.elim hq
end
namespace Q
section
variable {X:Cx}{pos p kpos:Pos}{k:Nat}{f C:Addr}{fd:FuncData}{ps:List Str}{sp:SpD}{x kn:Str}{e:Expr}{te:TD}
theorem yA (Mk':Mk X.K C f)(F:bV X.prog X.w X.K X.mg X.base CX0 k f fd ps (de X.K sp))(hr:cG (k+1) X.A)(hg:Gl X x)(hm:X.mg x=some (.ref C))(hb:KB1 X.K fd ps kn)(he:Jd (PD X e te))(hdb:(x == ("__debug__" : Str))=false:=by decide) :
  Jd (PD X (.Call (.Name x p) [] [⟨some kn,e,kpos⟩] pos) (w6 C sp te)):=⟨D.vK Mk' F hr hg hm hb he.h hdb⟩
end
section
variable {X:Cx}{o e:Expr}{td te:TD}{apos cpos:Pos}
theorem vZ (ho:Jd (PD X o td))(he:Jd (PD X e te))
  (hbase:attributeBase o "extend" X.env (eval o X.env)=eval o X.env:=by rfl)
  (hfew:((backTo cpos (starEach [e] X.env)).all (λ x=>!x.1) && (backToKw cpos (keywordEach [] X.env)).all (λ x=>x.1.isSome)
   && decide (([e]:List Expr).length+([]:List Keyword).length+(if ([]:List Keyword).isEmpty then 0 else 1) < 30))=true:=by rfl)
  (hline:(apos.endLine == cpos.line)=true:=by rfl)(hs:df e=false:=by rfl):Jd (PD X (.Call (.Attribute o "extend" apos) [e] [] cpos) (qc td te)):=⟨D.uX ho.h he.h hbase hfew hline hs⟩
end
end Q
end D
namespace K83
open PySem PySem.Spec PyProof.Rows L2 D Rc Stc
abbrev dP:Addr:=31
abbrev eI:Addr:=51
abbrev aw:Addr:=70
abbrev jQ:Addr:=89
abbrev av:Addr:=218
abbrev cI:Addr:=126
abbrev af:Addr:=124
abbrev l5:List Str:=["_law_bag_here", "_law_letters", "_law_word", "_law_at", "_law_step", "_law_place", "_law_found", "_law_k", "_law_sign", "_law_name", "_law_some"]
def lZ (ax:SpD):TSd :=
  bh (cA (dC (.d (.str "abcdefghijklmnopqrstuvwxyz"))) (gN 1)) <|
  bh (cA (dMS sX (dC (.d (.str ""))) (aj (dLC (rK (aj (bw ax (aj (ar 0) (aj (dC (.d (.int 8))) (aP)))) (aP))) (gN 0) (qt) (dOp dJ (ar 1) (bw ax (aj (ar 2) (aj (dC (.d (.int 26))) (aP))))) 1 [1,0]) aP)) (gN 2)) <|
  bh (cA (bw ax (aj (ar 0) (aj (dC (.d (.int 26))) (aP)))) (gN 3)) <|
  bh (cA (dOp dJ (zM (aj (dC (.d (.int 1))) (aj (dC (.d (.int 3))) (aj (dC (.d (.int 5))) (aj (dC (.d (.int 7))) (aj (dC (.d (.int 9))) (aj (dC (.d (.int 25))) (aP)))))))) (bw ax (aj (ar 0) (aj (dC (.d (.int 6))) (aP))))) (gN 4)) <|
  bh (cA (bw ax (aj (ar 0) (aj (dOp dG (dCB qo (aj (ar 2) (aP))) (dC (.d (.int 1)))) (aP)))) (gN 5)) <|
  bh (cA (kZ (aP)) (gN 6)) <|
  bh (yq (rK (aj (dOp dG (dC (.d (.int 1))) (bw ax (aj (ar 0) (aj (dC (.d (.int 4))) (aP))))) (aP))) (gN 7)
   (bh (cA (dOp dJ (ar 1) (dOp d9 (dOp dG (ar 3) (dOp fw (ar 4) (ar 7))) (dC (.d (.int 26))))) (gN 8)) <|
   bh (cA (dOp dG (dOp dG (dSl (ar 2) (eS) (nH (ar 5))) (ar 8)) (dSl (ar 2) (nH (ar 5)) (eS))) (gN 9)) <|
   bh (cA (zM (aj (dOp dG (dC (.d (.int 1))) (bw ax (aj (ar 0) (aj (dC (.d (.int 9))) (aP))))) (aj (dC (.d (.int 1))) (aj (dC (.d (.int 9))) (aj (dOp dG (dC (.d (.int 1))) (bw ax (aj (ar 0) (aj (dC (.d (.int 3))) (aP))))) (aP)))))) (gN 10)) <|
   iC (ml (ar 6) (uB (aj (ar 9) (aj (dOp dJ (ar 10) (bw ax (aj (ar 0) (aj (dC (.d (.int 4))) (aP))))) (aP))))))) <|
  dN (jn (ar 6))
abbrev gh:List Str:=["row"]
def gn (bu:SpD)(bO:SpD):TSd :=
  dN (om (dCB iZ (aj (ar 0) (aj (dC (.t "tuple")) (aP)))) (om (dOp kT (dCB qo (aj (ar 0) (aP))) (dC (.d (.int 2)))) (om (bw bu (aj (dOp dJ (ar 0) (dC (.d (.int 0)))) (aP))) (bw bO (aj (dOp dJ (ar 0) (dC (.d (.int 1)))) (aj (dC (.d (.int 1))) (aj (dC (.d (.int 9))) (aP))))))))
abbrev fB:List Str:=["shares", "at", "row"]
def fC (bc:SpD):TSd :=
  bh (dIf (dOr (uT (bf (dCB iZ (aj (ar 0) (aj (dC (.t "list")) (aP)))))) (uT (afl (ar 0))))
   (mT)
   (cB)) <|
  yq (aaT (aj (ar 0) (aP))) (gT 2 (bU (gN 1) (bU (gN 2) (ip))))
   (dIf (dOr (bf (dOp afa (ar 1) (dC (.d (.int 4))))) (dOr (uT (bf (bw bc (aj (ar 2) (aP))))) (bf (dOp (zA false) (dOp dJ (ar 2) (dC (.d (.int 0)))) (dLC (cK (dSl (ar 0) (eS) (nH (ar 1)))) (gN 0) (qt) (dOp dJ (ar 0) (dC (.d (.int 0)))) 1 [])))))
    (mT)
    (cB))
abbrev rZ:List Str:=["unit", "whole", "share"]
def sY:TSd :=
  dN (dUn abN (dOp qg (dOp fw (dUn abN (dOp dG (ar 0) (dC (.d (.int 1))))) (ar 1)) (ar 2)))
abbrev lL:List Str:=["shares", "whole", "owned", "row", "slot", "released", "owner", "share"]
abbrev eE:Str:=(("round_of" : Str) ++ ".<locals>." ++ "<lambda>")
def lW (cV:SpD):TSd :=
  bh (cA (dCB aeO (aj (dLC (cK (ar 0)) (gT 2 (bU (gN 0) (bU (gN 1) (ip)))) (qt) (ar 1) 2 []) (aP))) (gN 1)) <|
  bh (cA (dDC (cK (ar 0)) (gT 2 (bU (gN 0) (bU (gN 1) (ip)))) (qt) (ar 0) (dC (.d (.int 0))) 2 []) (gN 2)) <|
  bh (cA (kZ (aP)) (gN 3)) <|
  bh (yq (rK (aj (ar 1) (aP))) (gN 4)
   (bh (cA (dLC (cK (ar 0)) (gT 2 (bU (gN 0) (bU (gN 1) (ip)))) (bf (dOp aaC (dOp qg (dOp fw (dy (ar 2) (ar 0)) (ar 3)) (ar 1)) (ar 4))) (uB (aj (ar 0) (aj (ar 1) (aP)))) 2 [2,1,4]) (gN 5)) <|
   bh (cA (abh af eE ⟨46,41,46,92⟩ (ar 5) (bw cV (aj (dy (ar 2) (dOp dJ (ar 0) (dC (.d (.int 0))))) (aj (ar 1) (aj (dOp dJ (ar 0) (dC (.d (.int 1)))) (aP))))) [1,2]) (gT 2 (bU (gN 6) (bU (gN 7) (ip))))) <|
   bh (u7 (ar 2) (ar 6) (dC (.d (.int 1))) (λ i j=>i+j)) <|
   iC (ml (ar 3) (ar 6)))) <|
  dN (ar 3)
abbrev iI:List Str:=["self"]
def iS:TSd :=
  eU av (ar 0) (dC (.d (.int 0))) "next_slot"
abbrev eF:List Str:=["self", "shares"]
def eA (aV:SpD)(cj:SpD)(aO:SpD):TSd :=
  bh (iC (bw aV (aj (ar 1) (aP)))) <|
  bh (eU av (ar 0) (dDC (cK (ar 1)) (gT 2 (bU (gN 0) (bU (gN 1) (ip)))) (qt) (ar 0) (vf (sT av (ar 2) "asks_waiting") (ar 0) (dC (.d (.int 0)))) 2 [0]) "asks_waiting") <|
  bh (eU av (ar 0) (bw cj (aj (ar 1) (aP))) "owner_round") <|
  iC (i9 av "begin" aO (ar 0) aP)
abbrev jC:List Str:=["self", "shares"]
def jr (aA:SpD):TSd :=
  bh (eU av (ar 0) (iy) "asks_waiting") <|
  bh (eU av (ar 0) (kZ (aP)) "owner_round") <|
  bh (eU av (ar 0) (dC (.d (.int 0))) "next_slot") <|
  bh (eU av (ar 0) (dC (.d .none)) "number_led") <|
  dIf (bf (dOp (uw true) (ar 1) (dC (.d .none))))
   (iC (i9 av "new_shares" aA (ar 0) (aj (ar 1) (aP))))
   (cB)
abbrev oG:List Str:=["_law_parted", "_law_model_here", "_law_group", "_law_share"]
def pP:TSd :=
  bh (cA (sx [(dC (.d (.str "shares")),jn (dCB ff (aj (ar 0) (aP)))),(dC (.d (.str "waits")),iy),(dC (.d (.str "had")),u6 (cK (ar 0)) (gN 0) (qt) (dC (.d (.int 0))) 1 []),(dC (.d (.str "slot")),dC (.d (.int 0))),(dC (.d (.str "last")),dC (.d (.int 0)))]) (gN 1)) <|
  bh (yq (cK (ar 0)) (gT 2 (bU (gN 2) (bU (gN 3) (ip))))
   (oN (dy (ar 1) (dC (.d (.str "waits")))) (ar 2) (dC (.d (.int 0))))) <|
  dN (ar 1)
abbrev kQ:List Str:=["self", "name"]
abbrev i6:List Str:=["self", "group"]
def iJ (Ex:XE)(bu:SpD):TSd :=
  bh (dIf (dOr (uT (bf (bw bu (aj (ar 1) (aP))))) (bf (jZ (ar 1) (sT av (ar 0) "asks_waiting"))))
   (v5 aw ["name"] Ex (aj (ar 1) (aP)))
   (cB)) <|
  dN (dy (sT av (ar 0) "asks_waiting") (ar 1))
abbrev lp:List Str:=["self", "group", "many", "let_in"]
def lS (Ex:XE)(aM:SpX):TSd :=
  bh (cA (dCB zQ (aj (dCB vA (aj (ar 2) (aj (dOp yY (dC (.d (.int 40))) (pS av "waits" aM Ex (ar 0) (aj (ar 1) (aP)))) (aP)))) (aj (dC (.d (.int 0))) (aP)))) (gN 3)) <|
  bh (u7 (sT av (ar 0) "asks_waiting") (ar 1) (ar 3) (λ i j=>i+j)) <|
  dN (ar 3)
abbrev sJ:List Str:=["_law_door", "_law_way", "_law_group", "_law_many", "e"]
def sV (ck:SpX)(aM:SpX):TSd :=
  bh (afJ (λ Ex =>
   bh (dIf (bf (dOp kT (ar 1) (dC (.d (.int 0)))))
    (dN (uB (aj (dC (.d (.str "told"))) (aj (pS av "ask" ck Ex (ar 0) (aj (ar 2) (aj (ar 3) (aP)))) (aP)))))
    (cB)) <|
   dN (uB (aj (dC (.d (.str "told"))) (aj (pS av "waits" aM Ex (ar 0) (aj (ar 2) (aP))) (aP))))) (aba (yu [(aw,true)]) 4
   (dIf (afb (bf (abP (yu [(aw,true)]) (ar 4))) (afb (bf (abP (yu [(aw,true)]) (ar 4))) (uT (bf (abP (yu [(aw,false)]) (ar 4))))))
     (dN (uB (aj (dC (.d (.str "unknown"))) (aj (abJ [aw] (ar 4) "name") (aP)))))
     (cB)) (λ _ _ _ _=>False))) <|
  dN (uB (aj (dC (.d (.str "odd"))) (aj (dC (.d .none)) (aP))))
abbrev k8:List Str:=["_law_model_here", "_law_group", "_law_many", "_law_fresh"]
def lR:TSd :=
  bh (cA (dCB vA (aj (ar 2) (aj (dOp yY (dC (.d (.int 40))) (dy (dy (ar 0) (dC (.d (.str "waits")))) (ar 1))) (aP)))) (gN 3)) <|
  bh (oN (dy (ar 0) (dC (.d (.str "waits")))) (ar 1) (dOp dG (dy (dy (ar 0) (dC (.d (.str "waits")))) (ar 1)) (ar 3))) <|
  dN (ar 3)
abbrev p6:List Str:=["_law_model_here"]
def pN:TSd :=
  bh (oN (ar 0) (dC (.d (.str "had"))) (u6 (cK (dy (ar 0) (dC (.d (.str "shares"))))) (gN 0) (qt) (dC (.d (.int 0))) 1 [])) <|
  oN (ar 0) (dC (.d (.str "slot"))) (dC (.d (.int 0)))
abbrev pJ:List Str:=["_law_bag_here", "_law_model_here", "_law_old", "_law_names", "_law_fresh"]
def oU (ax:SpD)(aZ:SpD):TSd :=
  bh (cA (u6 (cK (dy (ar 1) (dC (.d (.str "shares"))))) (gT 2 (bU (gN 0) (bU (gN 1) (ip)))) (bf (dOp acK (bw ax (aj (ar 2) (aj (dC (.d (.int 3))) (aP)))) (dC (.d (.int 0))))) (uB (aj (ar 0) (aj (dOp dG (dC (.d (.int 1))) (bw ax (aj (ar 2) (aj (dC (.d (.int 9))) (aP))))) (aP)))) 2 [0]) (gN 2)) <|
  bh (dIf (bf (dOp kT (bw ax (aj (ar 0) (aj (dC (.d (.int 2))) (aP)))) (dC (.d (.int 0)))))
   (iC (mI (ar 2)))
   (cB)) <|
  bh (cA (rJ (dLC (nC (ar 2)) (gT 2 (bU (gN 0) (bU (gN 1) (ip)))) (qt) (ar 0) 2 [])) (gN 3)) <|
  bh (cA (u6 (cK (bw aZ (aj (ar 0) (aP)))) (gN 0) (bf (dOp (zA true) (dOp dJ (ar 0) (dC (.d (.int 0)))) (ar 1))) (ar 0) 1 [3]) (gN 4)) <|
  dN (afu (dOp xg (ar 2) (ar 4)) (eS) (nH (dC (.d (.int 4)))))
abbrev iH:List Str:=["_law_model_here", "_law_parted", "_law_waits", "_law_group", "_law_share"]
def iN (bC:SpD):TSd :=
  bh (cA (iy) (gN 2)) <|
  bh (yq (cK (ar 1)) (gT 2 (bU (gN 3) (bU (gN 4) (ip))))
   (oN (ar 2) (ar 3) (vf (dy (ar 0) (dC (.d (.str "waits")))) (ar 3) (dC (.d (.int 0)))))) <|
  bh (iC (xv (ar 0) (sx [(dC (.d (.str "shares")),jn (dCB ff (aj (ar 1) (aP)))),(dC (.d (.str "waits")),ar 2)]))) <|
  iC (bw bC (aj (ar 0) (aP)))
abbrev dH:List Str:=["self"]
def dB:TSd :=
  dN (acL (sT av (ar 0) "asks_waiting"))
abbrev iQ:List Str:=["self"]
def iK:TSd :=
  bh (dIf (uT (afl (sT av (ar 0) "owner_round")))
   (dN (dC (.d .none)))
   (cB)) <|
  dN (dOp dJ (sT av (ar 0) "owner_round") (dOp d9 (sT av (ar 0) "next_slot") (dCB qo (aj (sT av (ar 0) "owner_round") (aP)))))
abbrev lg:List Str:=["self", "groups", "first", "waiting"]
def lX (aF:SpD)(bE:SpD):TSd :=
  bh (dIf (uT (bf (i9 av "is_waited_at" aF (ar 0) aP)))
   (dN (dC (.d .none)))
   (cB)) <|
  bh (cA (jn (dCB vE (aj (sT av (ar 0) "asks_waiting") (aP)))) (gN 1)) <|
  bh (cA (qy (ar 1) (i9 av "owner" bE (ar 0) aP)) (gN 2)) <|
  bh (cA (dLC (cK (afc (dSl (ar 1) (nH (ar 2)) (eS)) (dSl (ar 1) (eS) (nH (ar 2))))) (gN 0) (bf (dOp acK (dy (sT av (ar 1) "asks_waiting") (ar 0)) (dC (.d (.int 0))))) (ar 0) 1 [0]) (gN 3)) <|
  bh (u7 (sT av (ar 0) "asks_waiting") (dOp dJ (ar 3) (dC (.d (.int 0)))) (dC (.d (.int 1))) (λ i j=>i - j)) <|
  bh (qK av (ar 0) (dC (.d (.int 1))) "next_slot" (λ i j=>i+j)) <|
  dN (dOp dJ (ar 3) (dC (.d (.int 0))))
abbrev tS:List Str:=["_law_door", "_law_model_here", "_law_found"]
def tJ (cc:SpD):TSd :=
  bh (cA (i9 av "use" cc (ar 0) aP) (gN 2)) <|
  bh (dIf (bf (dOp kT (abn (dy (ar 1) (dC (.d (.str "waits"))))) (dC (.d (.int 0)))))
   (dN (dOp (uw false) (ar 2) (dC (.d .none))))
   (cB)) <|
  bh (dIf (bf (dOp afj (vf (dy (ar 1) (dC (.d (.str "waits")))) (ar 2) (dC (.d (.int 0)))) (dC (.d (.int 1)))))
   (dN (dC (.d (.bool false))))
   (cB)) <|
  bh (oN (dy (ar 1) (dC (.d (.str "waits")))) (ar 2) (dOp yY (dy (dy (ar 1) (dC (.d (.str "waits")))) (ar 2)) (dC (.d (.int 1))))) <|
  dN (dC (.d (.bool true)))
abbrev sd:List Str:=["_law_bag_here", "_law_door", "_law_model_here", "_law_names", "_law_way", "_law_group", "_law_many", "_law_found", "_law_parted"]
def sW (ax:SpD)(bQ:SpD)(cf:SpD)(bC:SpD)(aO:SpD)(cH:SpD)(bG:SpD)(aA:SpD)(cX:SpD):TSd :=
  bh (cA (bw ax (aj (ar 0) (aj (dC (.d (.int 9))) (aP)))) (gN 4)) <|
  bh (cA (dOp dJ (ar 3) (bw ax (aj (ar 0) (aj (dCB qo (aj (ar 3) (aP))) (aP))))) (gN 5)) <|
  bh (cA (dOp dJ (zM (aj (dOp dG (dC (.d (.int 1))) (bw ax (aj (ar 0) (aj (dC (.d (.int 6))) (aP))))) (aj (dOp dG (dC (.d (.int 1))) (bw ax (aj (ar 0) (aj (dC (.d (.int 40))) (aP))))) (aj (dC (.d (.int 40))) (aP))))) (bw ax (aj (ar 0) (aj (dC (.d (.int 3))) (aP))))) (gN 6)) <|
  bh (dIf (bf (dOp afj (ar 4) (dC (.d (.int 5)))))
   (bh (cA (bw bQ (aj (ar 1) (aj (dC (.d (.int 0))) (aj (ar 5) (aj (ar 6) (aP)))))) (gN 7)) <|
   bh (dIf (bf (jZ (ar 5) (dy (ar 2) (dC (.d (.str "waits"))))))
    (dN (dOp kT (ar 7) (uB (aj (dC (.d (.str "unknown"))) (aj (ar 5) (aP))))))
    (cB)) <|
   dN (om (dOp kT (ar 7) (uB (aj (dC (.d (.str "told"))) (aj (bw cf (aj (ar 2) (aj (ar 5) (aj (ar 6) (aP))))) (aP))))) (yE (dCB iZ (aj (dOp dJ (ar 7) (dC (.d (.int 1)))) (aj (dC (.t "bool")) (aP)))))))
   (cB)) <|
  bh (dIf (bf (dOp kT (ar 4) (dC (.d (.int 5)))))
   (bh (iC (bw bC (aj (ar 2) (aP)))) <|
   dN (dOp (uw false) (i9 av "begin" aO (ar 1) aP) (dC (.d .none))))
   (cB)) <|
  bh (dIf (bf (dOp kT (ar 4) (dC (.d (.int 6)))))
   (bh (cA (jn (bw cH (aj (ar 0) (aj (ar 2) (aP))))) (gN 8)) <|
   bh (dIf (bf (dOp kT (ar 8) (zM (aP))))
    (dN (dC (.d (.bool true))))
    (cB)) <|
   bh (iC (bw bG (aj (ar 2) (aj (ar 8) (aP))))) <|
   bh (iC (qc (ar 3) (dLC (cK (ar 8)) (gN 0) (bf (dOp (zA true) (dOp dJ (ar 0) (dC (.d (.int 0)))) (ar 1))) (dOp dJ (ar 0) (dC (.d (.int 0)))) 1 [3]))) <|
   dN (dOp (uw false) (i9 av "new_shares" aA (ar 1) (aj (ar 8) (aP))) (dC (.d .none))))
   (cB)) <|
  dN (bw cX (aj (ar 1) (aj (ar 2) (aP))))
abbrev fQ:List Str:=["_law_door", "_law_model_here", "_law_names", "_law_group", "_law_due", "_law_found"]
def fH (bQ:SpD):TSd :=
  bh (m8 (yq (nC (ar 2)) (gN 3)
   (bh (cA (uB (aj (dC (.d (.str "unknown"))) (aj (ar 3) (aP)))) (gN 4)) <|
   bh (dIf (bf (afe (ar 3) (dy (ar 1) (dC (.d (.str "waits"))))))
    (cA (uB (aj (dC (.d (.str "told"))) (aj (dy (dy (ar 1) (dC (.d (.str "waits")))) (ar 3)) (aP)))) (gN 4))
    (cB)) <|
   bh (cA (bw bQ (aj (ar 0) (aj (dC (.d (.int 1))) (aj (ar 3) (aj (dC (.d (.int 0))) (aP)))))) (gN 5)) <|
   dIf (dOr (bf (dOp aaZ (ar 5) (ar 4))) (bf (dCB iZ (aj (dOp dJ (ar 5) (dC (.d (.int 1)))) (aj (dC (.t "bool")) (aP))))))
    (dN (dC (.d (.bool false))))
    (cB)))) <|
  dN (dC (.d (.bool true)))
abbrev aey:List Str:=["_law_script", "_law_bag_here", "_law_first", "_law_second", "_law_doors", "_law_models", "_law_names", "_law_turn", "_law_at", "_law_k"]
def adT (dU:SpD)(aZ:SpD)(ax:SpD)(a9:SpD)(cx:SpD)(cT:SpD)(aT:SpD):TSd :=
  bh (cA (bw dU (aj (ar 0) (aP))) (gN 1)) <|
  bh (cA (bw aZ (aj (ar 1) (aP))) (gN 2)) <|
  bh (cA (dOp dJ (zM (aj (zM (aP)) (aj (bw aZ (aj (ar 1) (aP))) (aP)))) (bw ax (aj (ar 1) (aj (dC (.d (.int 2))) (aP))))) (gN 3)) <|
  bh (cA (kZ (aj (zi av a9 (aj (jn (dCB ff (aj (ar 2) (aP)))) (aP))) (aj (dOp dJ (kZ (aj (vh av a9) (aj (zi av a9 (aj (dC (.d .none)) (aP))) (aP)))) (bw ax (aj (ar 1) (aj (dC (.d (.int 2))) (aP))))) (aP)))) (gN 4)) <|
  bh (dIf (bf (dOp aaZ (ar 3) (zM (aP))))
   (cA (w6 av a9 (jn (dCB ff (aj (ar 3) (aP))))) (yv (ar 4) (dC (.d (.int 1)))))
   (cB)) <|
  bh (cA (kZ (aj (bw cx (aj (ar 2) (aP))) (aj (bw cx (aj (ar 3) (aP))) (aP)))) (gN 5)) <|
  bh (cA (dOp xg (u6 (cK (afc (ar 2) (ar 3))) (gT 2 (bU (gN 0) (bU (gN 1) (ip)))) (qt) (ar 0) 2 []) (kZ (aj (dC (.d (.str "nobody"))) (aP)))) (gN 6)) <|
  bh (yq (rK (aj (dC (.d (.int 36))) (aP))) (gN 7)
   (bh (cA (bw ax (aj (ar 1) (aj (dC (.d (.int 2))) (aP)))) (gN 8)) <|
   bh (dIf (uT (bf (bw cT (aj (ar 1) (aj (dOp dJ (ar 4) (ar 8)) (aj (dOp dJ (ar 5) (ar 8)) (aj (ar 6) (aP))))))))
    (dN (dC (.d (.bool false))))
    (cB)) <|
   yq (rK (aj (dC (.d (.int 2))) (aP))) (gN 9)
    (dIf (uT (bf (bw aT (aj (dOp dJ (ar 4) (ar 9)) (aj (dOp dJ (ar 5) (ar 9)) (aj (ar 6) (aP)))))))
     (dN (dC (.d (.bool false))))
     (cB)))) <|
  dN (dC (.d (.bool true)))
abbrev Sh:=List (Str×Nat)
def cC (r:Str×Nat):PyData:=.tuple [.str r.1,.int (r.2:Nat)]
def shD (S:Sh):PyData:=.list (S.map cC)
structure OkS (S:Sh):Prop where
 ne:S≠[]
 len:S.length<=4
 row:∀ r∈S,wd r.1=true/\1<=r.2/\r.2<=9
 nd:(S.map (·.1)).Nodup
def wn (S:Sh):Nat:=(S.map (·.2)).sum
def sv (S:Sh)(i:Nat):Int:=(((S.map (·.2)).getD i 1:Nat):Int)
def cv (c:List Int)(i:Nat):Int:=c.getD i 0
def Rl (S:Sh)(c:List Int)(t:Int)(i:Nat):Prop:=cv c i * (wn S:Nat) / sv S i<=t
def due (W s c:Int):Int:=-(-(c+1) * W / s)
def Du (S:Sh)(c:List Int)(i:Nat):Int:=due (wn S:Nat) (sv S i) (cv c i)
def tZ (S:Sh)(c:List Int)(t:Int)(i:Nat):Prop:=i < S.length/\Rl S c t i/\∀ j,j < S.length->Rl S c t j->Du S c i<=Du S c j/\(j < i->Du S c i < Du S c j)
theorem tZ.uniq {S:Sh}{c:List Int}{t:Int}{i j:Nat}(h:tZ S c t i)(k:tZ S c t j):i=j:=by
 have h1:=h.2.2 j k.1 k.2.1
 have h2:=k.2.2 i h.1 h.2.1
 rcases Nat.lt_trichotomy i j with e | e | e
 ·have:=h2.2 e
  omega
 ·exact e
 ·have:=h1.2 e
  omega
theorem abo {S:Sh}{c:List Int}{t:Int}(h:∃ i,i < S.length/\Rl S c t i):∃ i,tZ S c t i:=by
 have key:∀ m,m<=S.length->(∀ j,j < m->¬ Rl S c t j)\/∃ i,i < m/\Rl S c t i/\∀ j,j < m->Rl S c t j->Du S c i<=Du S c j/\(j < i->Du S c i < Du S c j):=by
  intro m
  induction m with
  | zero=>intro _; exact .inl λ j hj=>absurd hj (Nat.not_lt_zero _)
  | succ m ih =>
   intro hm
   rcases ih (by omega) with h | ⟨i,hi,hr,hb⟩
   ·by_cases q:Rl S c t m
    ·refine .inr ⟨m,by omega,q,λ j hj hrj=>?_⟩
     by_cases e:j < m
     ·exact absurd hrj (h j e)
     ·have e:j=m:=by omega
      subst e
      exact ⟨Int.le_refl _,λ z=>absurd z (Nat.lt_irrefl _)⟩
    ·refine .inl λ j hj=>?_
     by_cases e:j < m
     ·exact h j e
     ·have e:j=m:=by omega
      subst e
      exact q
   ·by_cases q:Rl S c t m/\Du S c m < Du S c i
    ·refine .inr ⟨m,by omega,q.1,λ j hj hrj=>?_⟩
     by_cases e:j < m
     ·have:=(hb j e hrj).1
      exact ⟨by omega,λ _=>by omega⟩
     ·have e:j=m:=by omega
      subst e
      exact ⟨Int.le_refl _,λ z=>absurd z (Nat.lt_irrefl _)⟩
    ·refine .inr ⟨i,by omega,hr,λ j hj hrj=>?_⟩
     by_cases e:j < m
     ·exact hb j e hrj
     ·have e:j=m:=by omega
      subst e
      have:¬ Du S c j < Du S c i:=λ z=>q ⟨hrj,z⟩
      exact ⟨by omega,λ z=>by omega⟩
 obtain ⟨i,hi,hr⟩:=h
 rcases key S.length (Nat.le_refl _) with h | ⟨j,h⟩
 ·exact absurd hr (h i hi)
 ·exact ⟨j,h⟩
open Classical in
noncomputable def pk (S:Sh)(c:List Int)(t:Int):Nat:=if h:∃ i,tZ S c t i then h.choose else 0
theorem xn {S:Sh}{c:List Int}{t:Int}(h:∃ i,tZ S c t i):tZ S c t (pk S c t):=by
 unfold pk
 rw [dif_pos h]
 exact h.choose_spec
theorem ae5 {S:Sh}{c:List Int}{t:Int}{i:Nat}(h:tZ S c t i):pk S c t=i:=(xn ⟨i,h⟩).uniq h
noncomputable def nx (S:Sh)(c:List Int)(t:Int):List Int:=c.set (pk S c t) (cv c (pk S c t)+1)
noncomputable def st (S:Sh):Nat->List Int
 | 0=>List.replicate S.length 0
 | t+1=>nx S (st S t) t
theorem lB {c:List Int}{i j:Nat}{x:Int}(h:i < c.length):cv (c.set i x) j=if j=i then x else cv c j:=by
 unfold cv
 by_cases e:j=i
 ·subst e
  rw [if_pos rfl,List.getD_eq_getElem?_getD,List.getElem?_set_self h]
  rfl
 ·rw [if_neg e,List.getD_eq_getElem?_getD,List.getElem?_set_ne (Ne.symm e),<- List.getD_eq_getElem?_getD]
theorem sum_set:∀ (c:List Int) (i:Nat) (x:Int),i < c.length->(c.set i x).sum=c.sum - cv c i+x
 | [],_,_,h=>absurd h (Nat.not_lt_zero _)
 | a :: c,0,x,_=>by
  show x+c.sum=a+c.sum - a+x
  omega
 | a :: c,i+1,x,h=>by
  have ih:=sum_set c i x (by simpa using h)
  have e:cv (a :: c) (i+1)=cv c i:=by simp [cv]
  rw [e]
  show a+(c.set i x).sum=a+c.sum - cv c i+x
  rw [ih]
  omega
theorem wsum:∀ (cs:List Int) (ns:List Nat) (k W:Int),cs.length=ns.length->(∀ i,i < cs.length->k * ((ns.getD i 1:Nat):Int)<=cv cs i * W)->k * ((ns.sum:Nat):Int)<=cs.sum * W
 | [],[],k,W,_,_=>by simp
 | [],_ :: _,_,_,h,_=>by simp at h
 | _ :: _,[],_,_,h,_=>by simp at h
 | a :: cs,n :: ns,k,W,h,hb=>by
  have ih:=wsum cs ns k W (by simpa using h) λ i hi=>by
   have:=hb (i+1) (by simpa using hi)
   simpa [cv] using this
  have h0:k * (n:Int)<=a * W:=by simpa [cv] using hb 0 (by simp)
  have e1:(((n :: ns).sum:Nat):Int)=(n:Int)+((ns.sum:Nat):Int):=by simp
  have e2:(a :: cs).sum=a+cs.sum:=rfl
  rw [e1,e2,Int.mul_add,Int.add_mul]
  omega
theorem oO {S:Sh}(hO:OkS S){i:Nat}(hi:i < S.length):1<=sv S i/\sv S i<=9:=by
 have hr:=hO.row S[i] (List.getElem_mem hi)
 have e:sv S i=(S[i].2:Nat):=by simp [sv,List.getD,List.getElem?_map,List.getElem?_eq_getElem hi]
 rw [e]
 omega
theorem xG {S:Sh}(hO:OkS S):1<=wn S/\wn S<=36:=by
 have up:∀ T:Sh,(∀ r∈T,1<=r.2/\r.2<=9)->T.length<=wn T/\wn T<=9 * T.length:=by
  intro T
  induction T with
  | nil=>intro _; simp [wn]
  | cons r T ih =>
   intro h
   have h1:=h r (by simp)
   have h2:=ih λ x hx=>h x (by simp [hx])
   have e:wn (r :: T)=r.2+wn T:=by simp [wn]
   rw [e,List.length_cons]
   omega
 have h:=up S λ r hr=>(hO.row r hr).2
 have h1:=List.length_pos_iff.mpr hO.ne
 have h2:=hO.len
 omega
theorem ac0 {S:Sh}{c:List Int}{t:Int}(hO:OkS S)(hl:c.length=S.length)(hs:c.sum=t):∃ i,i < S.length/\Rl S c t i:=by
 by_cases h:∃ i,i < S.length/\Rl S c t i
 ·exact h
 exfalso
 have hw:=wsum c (S.map (·.2)) (t+1) (wn S:Nat) (by rw [hl,List.length_map]) λ i hi=>by
  have hi':i < S.length:=by omega
  have hn:¬ Rl S c t i:=λ z=>h ⟨i,hi',z⟩
  unfold Rl at hn
  have hp:=oO hO hi'
  have:t+1<=cv c i * (wn S:Nat) / sv S i:=by omega
  exact (Int.le_ediv_iff_mul_le (show 0 < sv S i by omega)).mp this
 have e:(((S.map (·.2)).sum:Nat):Int)=(wn S:Nat):=rfl
 rw [e,hs,Int.add_mul] at hw
 have:=(xG hO).1
 omega
structure afU (S:Sh)(c:List Int)(t:Nat):Prop where
 len:c.length=S.length
 sum:c.sum=(t:Int)
 bd:∀ i,0<=cv c i/\cv c i<=(t:Int)
theorem afU.best {S:Sh}{c:List Int}{t:Nat}(hO:OkS S)(h:afU S c t):tZ S c t (pk S c t):=xn (abo (ac0 hO h.len h.sum))
theorem kg {S:Sh}(hO:OkS S):∀ t,afU S (st S t) t
 | 0=>by
  refine ⟨by simp [st],?_,λ i=>?_⟩
  ·show (List.replicate S.length (0:Int)).sum=0
   induction S.length with
   | zero=>rfl
   | succ n ih=>rw [List.replicate_succ]; show 0+(List.replicate n (0:Int)).sum=0; rw [ih]; rfl
  ·have:cv (st S 0) i=0:=by
    simp only [cv,st,List.getD_eq_getElem?_getD,List.getElem?_replicate]
    split <;> rfl
   omega
 | t+1=>by
  have ih:=kg hO t
  have hb:=ih.best hO
  have hi:pk S (st S t) t < (st S t).length:=by rw [ih.len]; exact hb.1
  refine ⟨by simp [st,nx,ih.len],?_,λ i=>?_⟩
  ·show ((st S t).set _ _).sum=_
   rw [sum_set _ _ _ hi,ih.sum]
   omega
  ·show 0<=cv ((st S t).set _ _) i/\cv ((st S t).set _ _) i<=_
   rw [lB hi]
   have h1:=ih.bd i
   have h2:=ih.bd (pk S (st S t) t)
   split <;> omega
theorem jJ {S:Sh}(hO:OkS S)(t:Nat):tZ S (st S t) t (pk S (st S t) t):=(kg hO t).best hO
theorem ac1 {S:Sh}(hO:OkS S):∀ t,t<=wn S->∀ i,i < S.length->cv (st S t) i<=sv S i
 | 0,_,i,hi=>by
  have h1:=((kg hO 0).bd i).2
  have h2:=oO hO hi
  have e:((0:Nat):Int)=0:=rfl
  omega
 | t+1,ht,i,hi=>by
  have ih:=ac1 hO t (by omega) i hi
  have hb:=jJ hO t
  have hl:pk S (st S t) t < (st S t).length:=by rw [(kg hO t).len]; exact hb.1
  show cv ((st S t).set _ _) i<=_
  rw [lB hl]
  split
  ·rename_i e
   rw [<- e]
   have hr:Rl S (st S t) t i:=by rw [e]; exact hb.2.1
   unfold Rl at hr
   by_cases q:cv (st S t) i=sv S i
   ·have h2:=oO hO hi
    rw [q,Int.mul_ediv_cancel_left _ (by omega)] at hr
    omega
   ·omega
  ·exact ih
def ss (S:Sh):List Int:=S.map λ r=>((r.2:Nat):Int)
theorem pY:∀ (a b:List Int),a.length=b.length->(∀ i,i < a.length->cv a i<=cv b i)->a.sum=b.sum->a=b
 | [],[],_,_,_=>rfl
 | [],_ :: _,h,_,_=>by simp at h
 | _ :: _,[],h,_,_=>by simp at h
 | x :: a,y :: b,h,hb,hs=>by
  have le:∀ (a b:List Int),a.length=b.length->(∀ i,i < a.length->cv a i<=cv b i)->a.sum<=b.sum:=by
   intro a
   induction a with
   | nil=>intro b h _; cases b with
    | nil=>simp
    | cons _ _=>simp at h
   | cons x a ih =>
    intro b h hb
    cases b with
    | nil=>simp at h
    | cons y b =>
     have h1:=ih b (by simpa using h) λ i hi=>by simpa [cv] using hb (i+1) (by simpa using hi)
     have h2:x<=y:=by simpa [cv] using hb 0 (by simp)
     show x+a.sum<=y+b.sum
     omega
  have h1:=le a b (by simpa using h) λ i hi=>by simpa [cv] using hb (i+1) (by simpa using hi)
  have h2:x<=y:=by simpa [cv] using hb 0 (by simp)
  have hs':x+a.sum=y+b.sum:=hs
  have e1:x=y:=by omega
  have e2:a.sum=b.sum:=by omega
  rw [e1,pY a b (by simpa using h) (λ i hi=>by simpa [cv] using hb (i+1) (by simpa using hi)) e2]
theorem aaI (S:Sh):(ss S).sum=(wn S:Nat):=by
 induction S with
 | nil=>rfl
 | cons r S ih =>
  have e:wn (r :: S)=r.2+wn S:=by simp [wn]
  show ((r.2:Nat):Int)+(ss S).sum=_
  rw [ih,e]
  omega
theorem aaR {S:Sh}{i:Nat}(hi:i < S.length):cv (ss S) i=sv S i:=by
 simp [cv,ss,sv,List.getD,List.getElem?_map,List.getElem?_eq_getElem hi]
theorem ag5 {S:Sh}(hO:OkS S):st S (wn S)=ss S:=by
 have h:=kg hO (wn S)
 refine pY _ _ (by rw [h.len]; simp [ss]) (λ i hi=>?_) (by rw [h.sum,aaI])
 have hi':i < S.length:=by rw [<- h.len]; exact hi
 rw [aaR hi']
 exact ac1 hO _ (Nat.le_refl _) i hi'
def zo (S:Sh)(c:List Int):List Int:=List.zipWith (· + ·) c (ss S)
theorem lC {S:Sh}{c:List Int}{i:Nat}(hl:c.length=S.length)(hi:i < S.length):cv (zo S c) i=cv c i+sv S i:=by
 rw [<- aaR hi]
 have h1:c[i]? = some (c[i]'(by omega)):=List.getElem?_eq_getElem (by omega)
 have h2:(ss S)[i]? = some ((ss S)[i]'(by simp [ss]; omega)):=List.getElem?_eq_getElem (by simp [ss]; omega)
 unfold cv zo
 simp only [List.getD_eq_getElem?_getD,List.getElem?_zipWith,h1,h2,Option.getD_some]
theorem qT {S:Sh}{c:List Int}(hl:c.length=S.length):(zo S c).length=S.length:=by simp [zo,ss,hl]
theorem zU {S:Sh}{c:List Int}{t:Int}{i:Nat}(hO:OkS S)(hl:c.length=S.length)(hi:i < S.length):Rl S (zo S c) (t+(wn S:Nat)) i ↔ Rl S c t i:=by
 unfold Rl
 rw [lC hl hi,Int.add_mul,Int.mul_comm (sv S i),Int.add_mul_ediv_right _ _ (by have:=oO hO hi; omega)]
 omega
theorem aaf {S:Sh}{c:List Int}{i:Nat}(hO:OkS S)(hl:c.length=S.length)(hi:i < S.length):Du S (zo S c) i=Du S c i+(wn S:Nat):=by
 unfold Du due
 rw [lC hl hi]
 have e:-(cv c i+sv S i+1) * ((wn S:Nat):Int)=-(cv c i+1) * ((wn S:Nat):Int)+(-((wn S:Nat):Int)) * sv S i:=by
  rw [show -(cv c i+sv S i+1)=-(cv c i+1) + -(sv S i) from by omega,Int.add_mul,Int.neg_mul (sv S i),Int.neg_mul ((wn S:Nat):Int),Int.mul_comm (sv S i)]
 rw [e,Int.add_mul_ediv_right _ _ (by have:=oO hO hi; omega)]
 omega
theorem aaw {S:Sh}{c:List Int}{t:Int}(hO:OkS S)(hl:c.length=S.length)(hb:tZ S c t (pk S c t)):pk S (zo S c) (t+(wn S:Nat))=pk S c t:=by
 refine ae5 ⟨hb.1,(zU hO hl hb.1).mpr hb.2.1,λ j hj hr=>?_⟩
 have h:=hb.2.2 j hj ((zU hO hl hj).mp hr)
 rw [aaf hO hl hb.1,aaf hO hl hj]
 exact ⟨by omega,λ z=>by have:=h.2 z; omega⟩
theorem aad {a b:List Int}(hl:a.length=b.length)(h:∀ i,i < a.length->cv a i=cv b i):a=b:=by
 refine List.ext_getElem hl λ i h1 h2=>?_
 have:=h i h1
 simpa [cv,List.getD,List.getElem?_eq_getElem h1,List.getElem?_eq_getElem h2] using this
theorem zT {S:Sh}(hO:OkS S):∀ t,st S (t+wn S)=zo S (st S t)
 | 0=>by
  rw [Nat.zero_add,ag5 hO]
  refine aad (by rw [qT (kg hO 0).len]; simp [ss]) λ i hi=>?_
  have hi':i < S.length:=by simpa [ss] using hi
  have h0:=(kg hO 0).bd i
  rw [lC (kg hO 0).len hi',aaR hi']
  have e:((0:Nat):Int)=0:=rfl
  omega
 | t+1=>by
  have ih:=zT hO t
  have ok:=kg hO t
  have hb:=jJ hO t
  have e1:t+1+wn S=(t+wn S)+1:=by omega
  rw [e1]
  show nx S (st S (t+wn S)) ((t+wn S:Nat):Int)=zo S (nx S (st S t) t)
  rw [ih,show ((t+wn S:Nat):Int)=(t:Int)+(wn S:Nat) from by omega]
  have hp:=aaw hO ok.len hb
  have hi:pk S (st S t) t < (st S t).length:=by rw [ok.len]; exact hb.1
  unfold nx
  rw [hp]
  have l1:=qT ok.len
  have l2:((st S t).set (pk S (st S t) t) (cv (st S t) (pk S (st S t) t)+1)).length=S.length:=by rw [List.length_set]; exact ok.len
  refine aad (by rw [List.length_set,l1,qT l2]) λ i hi'=>?_
  have hi2:i < S.length:=by rw [List.length_set,l1] at hi'; exact hi'
  rw [lB (by rw [l1]; exact hb.1),lC l2 hi2,lB hi,lC ok.len hi2,lC ok.len hb.1]
  split
  ·rename_i e
   subst e
   omega
  ·rfl
noncomputable def own (S:Sh)(t:Nat):Nat:=pk S (st S t) t
theorem zW {S:Sh}(hO:OkS S)(t:Nat):own S t < S.length:=(jJ hO t).1
theorem acq {S:Sh}(hO:OkS S)(t:Nat):own S (t+wn S)=own S t:=by
 unfold own
 rw [zT hO,show ((t+wn S:Nat):Int)=(t:Int)+(wn S:Nat) from by omega]
 exact aaw hO (kg hO t).len (jJ hO t)
theorem abK {S:Sh}(hO:OkS S)(t:Nat):own S t=own S (t % wn S):=by
 have key:∀ k r,own S (r+k * wn S)=own S r:=by
  intro k
  induction k with
  | zero=>intro r; simp
  | succ k ih =>
   intro r
   rw [Nat.succ_mul,<- Nat.add_assoc,acq hO,ih]
 have:=key (t / wn S) (t % wn S)
 rw [<- this,Nat.mul_comm,Nat.mod_add_div]
def nmS (S:Sh)(i:Nat):Str:=(S.map (·.1)).getD i ""
noncomputable def rw0 (S:Sh)(m:Nat):List Str:=(List.range m).map λ t=>nmS S (own S t)
theorem xS (S:Sh)(i:Nat):cv (st S 0) i=0:=by
 simp only [cv,st,List.getD_eq_getElem?_getD,List.getElem?_replicate]
 split <;> rfl
structure OkE (S:Sh):Prop where
 len:S.length<=4
 row:∀ r∈S,wd r.1=true/\1<=r.2/\r.2<=9
 nd:(S.map (·.1)).Nodup
theorem OkS.e {S:Sh}(h:OkS S):OkE S:=⟨h.len,h.row,h.nd⟩
theorem OkE.nil:OkE []:=⟨by simp,(λ _ h=>nomatch h),by simp⟩
theorem OkE.s {S:Sh}(h:OkE S)(n:S≠[]):OkS S:=⟨n,h.len,h.row,h.nd⟩
def bc:SpD:=λ ws M Q=>∃ r:Str×Nat,ws=[.d (cC r)]/\wd r.1=true/\1<=r.2/\r.2<=9/\Q (.d (.bool true)) M
theorem i7:∀ ws M Q,bc ws M Q->ws.length=1:=by rintro ws M Q ⟨r,rfl,_⟩; rfl
theorem iw:∀ ws M Q,bc ws M Q->gn bu bO { nx:=λ _ M'=>Q (.d .none) M',rt:=Q } (aQ gh ws) M:=by
 rintro ws M Q ⟨r,rfl,hw,h1,h9,k⟩
 refine ⟨_,rfl,_,_,_,rfl,.d,.tuple,_,rfl,?_⟩
 rw [show kO (cC r) "tuple" = true from aft _]
 refine jK ⟨_,rfl,_,_,rfl,rfl,rfl,_,_,.d,.d,(show dO (.int ((2:Nat):Int)) (.int 2)=true by decide +kernel),_,rfl,?_⟩
 rw [show PyData.eqv (.int (([PyData.str r.1,PyData.int (r.2:Nat)].length:Nat):Int)) (.int 2)=true from ahF]
 exact jK ⟨_,rfl,0,_,rfl,rfl,rfl,r.1,rfl,hw,_,rfl,jK ⟨_,rfl,1,_,rfl,rfl,rfl,(r.2:Nat),1,9,rfl,by omega,by omega,k⟩⟩
def aV:SpD:=λ ws M Q=>∃ S:Sh,ws=[.d (shD S)]/\OkS S/\Q (.d .none) M
theorem iq:∀ ws M Q,aV ws M Q->ws.length=1:=by rintro ws M Q ⟨S,rfl,_⟩; rfl
theorem hX:∀ ws M Q,aV ws M Q->fC bc { nx:=λ _ M'=>Q (.d .none) M',rt:=Q } (aQ fB ws) M:=by
 rintro ws M Q ⟨S,rfl,hO,k⟩
 refine ⟨_,rfl,_,_,_,rfl,.d,.list,_,rfl,?_⟩
 rw [show kO (shD S) "list" = true from afz _]
 refine kI ⟨_,rfl,_,.l,?_⟩
 have hne:(!(S.map cC).isEmpty)=true:=by
  cases hs:S with
  | nil=>exact absurd hs hO.ne
  | cons _ _=>rfl
 refine uk (by rw [hne]; rfl) ⟨_,rfl,_,rfl,?_⟩
 refine ⟨λ i τ M'=>M'=M/\∃ x2 x3,τ=[some (.d (shD S)),x2,x3],⟨rfl,_,_,rfl⟩,?_,?_⟩
 ·rintro i w τ M' hw ⟨rfl,x2,x3,rfl⟩
  obtain ⟨r,hr,rfl⟩:=zG hw
  have hi:=(List.getElem?_eq_some_iff.mp hr).1
  have h4:=hO.len
  have hrow:=hO.row r (List.mem_of_getElem? hr)
  refine ⟨_,rfl,rfl,_,_,rfl,_,_,rfl,rfl,?_⟩
  refine ⟨_,rfl,_,_,rfl,rfl,_,rfl,?_⟩
  rw [decide_eq_false (show ¬ (4:Int)<=(i:Nat) by omega)]
  refine kI ⟨_,rfl,r,rfl,hrow.1,hrow.2.1,hrow.2.2,_,rfl,kI ⟨_,rfl,0,_,rfl,rfl,rfl,_,rfl,_,rfl,_,rfl,_,rfl,rfl,_,rfl,?_⟩⟩
  rw [mB (by rw [List.length_map]; omega),<- List.map_take,List.map_map]
  refine gw (S.take i) (W.d ∘ cC) (λ r=>.str r.1) (λ τ=>∃ x,τ=[x]) (by rw [List.length_take]; omega) ⟨_,rfl⟩ (λ r' hr' τ hτ R h=>?_) (λ τ=>?_)
  ·obtain ⟨x,rfl⟩:=hτ
   exact ⟨_,rfl,0,_,rfl,rfl,rfl,_,rfl,h _ ⟨_,rfl⟩⟩
  ·refine ⟨r.1,(S.take i).map λ r=>r.1,rfl,?_,_,rfl,?_⟩
   ·have e:a6 ((S.take i).map λ r=>r.1)=((S.take i).map λ r=>PyData.str r.1).map W.d:=by unfold a6; rw [List.map_map,List.map_map]; rfl
    rw [e]
    exact .l
   ·have hn:r.1 ∉ (S.take i).map λ r=>r.1:=by
     rw [List.map_take]
     exact jz hO.nd (by rw [List.getElem?_map,hr]; rfl)
    rw [if_neg (by decide),decide_eq_false hn]
    exact ⟨rfl,_,_,rfl⟩
 ·rintro τ M' ⟨rfl,x2,x3,rfl⟩
  exact k
def cV:SpD:=λ ws M Q=>∃ u W s:Int,ws=[.d (.int u),.d (.int W),.d (.int s)]/\0<=W/\W<=1000/\1<=s/\s<=9/\Q (.d (.int (due W s u))) M
theorem uv:∀ ws M Q,cV ws M Q->ws.length=3:=by rintro ws M Q ⟨u,W,s,rfl,_⟩; rfl
theorem qY:∀ ws M Q,cV ws M Q->sY { nx:=λ _ M'=>Q (.d .none) M',rt:=Q } (aQ rZ ws) M:=by
 rintro ws M Q ⟨u,W,s,rfl,h0,h1,h2,h3,k⟩
 exact ⟨_,rfl,.inl ⟨_,_,rfl,rfl,_,rfl,_,rfl,_,_,rfl,rfl,.inr ⟨by omega,by omega⟩,_,rfl,_,_,rfl,rfl,⟨by omega,by omega⟩,_,rfl,k⟩⟩
def kvL (N:List Str)(c:List Int):List (Key×W):=List.zipWith (λ z n=>((.inr z:Key),W.d (.int n))) N c
theorem gA:∀ {N:List Str} {c:List Int} {i:Nat} {z:Str} {n:Int},N.Nodup->N[i]? = some z->c[i]? = some n->fq (kvL N c) (.inr z)=some (.d (.int n))
 | [],_,_,_,_,_,h,_=>by simp at h
 | _ :: _,[],_,_,_,_,_,h=>by simp at h
 | y :: N,m :: c,0,z,n,nd,h1,h2=>by
  simp at h1 h2
  subst h1 h2
  show fq (((.inr y:Key),W.d (.int m)) :: kvL N c) (.inr y)=_
  rw [j5,if_pos rfl]
 | y :: N,m :: c,i+1,z,n,nd,h1,h2=>by
  have hz:z∈N:=List.mem_of_getElem? (by simpa using h1)
  have hne:y≠z:=λ e=>(List.nodup_cons.mp nd).1 (e ▸ hz)
  show fq (((.inr y:Key),W.d (.int m)) :: kvL N c) (.inr z)=_
  rw [j5,if_neg λ e=>hne (Sum.inr.inj e)]
  exact gA (List.nodup_cons.mp nd).2 (by simpa using h1) (by simpa using h2)
theorem xT {x:Int}{z:Str}:∀ {N:List Str} {c:List Int} {i:Nat},N.Nodup->N.length=c.length->N[i]? = some z->(kvL N c).map (λ p=>if p.1=(.inr z:Key) then (p.1,W.d (.int x)) else p)=kvL N (c.set i x)
 | [],_,_,_,_,h=>by simp at h
 | _ :: _,[],_,_,h,_=>by simp at h
 | y :: N,m :: c,0,nd,hl,h=>by
  simp at h
  subst h
  have hn:=(List.nodup_cons.mp nd).1
  show ((if ((.inr y:Key),W.d (.int m)).1=(.inr y:Key) then _ else _) :: (kvL N c).map _)=((.inr y:Key),W.d (.int x)) :: kvL N c
  rw [if_pos rfl]
  congr 1
  have:∀ p∈kvL N c,p.1≠(.inr y:Key):=by
   intro p hp e
   unfold kvL at hp
   obtain ⟨j,hj,ej⟩:=List.mem_iff_getElem.mp hp
   rw [List.getElem_zipWith] at ej
   subst ej
   have:N[j]'(by simp at hj; omega)=y:=Sum.inr.inj e
   exact hn (this ▸ List.getElem_mem _)
  conv=>rhs; rw [<- List.map_id (kvL N c)]
  refine List.map_congr_left λ p hp=>?_
  rw [if_neg (this p hp)]
  rfl
 | y :: N,m :: c,i+1,nd,hl,h=>by
  have hz:z∈N:=List.mem_of_getElem? (by simpa using h)
  have hne:y≠z:=λ e=>(List.nodup_cons.mp nd).1 (e ▸ hz)
  show ((if ((.inr y:Key),W.d (.int m)).1=(.inr z:Key) then _ else _) :: (kvL N c).map _)=((.inr y:Key),W.d (.int m)) :: kvL N (c.set i x)
  rw [if_neg λ e=>hne (Sum.inr.inj e),xT (List.nodup_cons.mp nd).2 (by simpa using hl) (by simpa using h)]
theorem j4 {N:List Str}{c:List Int}{i:Nat}{z:Str}{x:Int}(nd:N.Nodup)(hl:N.length=c.length)(h:N[i]? = some z):p9 (kvL N c) (.inr z) (.d (.int x))=kvL N (c.set i x):=by
 have hi:i < c.length:=by rw [<- hl]; exact (List.getElem?_eq_some_iff.mp h).1
 unfold p9
 rw [sk,gA nd h (List.getElem?_eq_getElem hi),Option.isSome_some,if_pos rfl]
 exact xT nd hl h
theorem tD {N:List Str}{n:Nat}{z:Str}(hn:N.length=n)(hz:z ∉ N):p9 (kvL N (List.replicate n 0)) (.inr z) (.d (.int 0))=kvL (N++[z]) (List.replicate (n+1) 0):=by
 have hno:∀ p∈kvL N (List.replicate n 0),decide (p.1=(.inr z:Key))=false:=by
  intro p hp
  unfold kvL at hp
  obtain ⟨j,hj,ej⟩:=List.mem_iff_getElem.mp hp
  rw [List.getElem_zipWith] at ej
  subst ej
  refine decide_eq_false λ e=>hz ?_
  have:N[j]'(by simp at hj; omega)=z:=Sum.inr.inj e
  exact this ▸ List.getElem_mem _
 unfold p9
 rw [if_neg (by rw [Bool.not_eq_true,List.any_eq_false]; intro p hp; simpa using hno p hp)]
 unfold kvL
 rw [List.replicate_succ',List.zipWith_append (by simp [hn])]
 rfl
def nmL (S:Sh):List Str:=S.map (·.1)
theorem mH {S:Sh}{i:Nat}{r:Str×Nat}(h:S[i]? = some r):(nmL S)[i]? = some r.1/\nmS S i=r.1:=by
 have e:(nmL S)[i]? = some r.1:=by simp [nmL,List.getElem?_map,h]
 exact ⟨e,by unfold nmS; rw [List.getD_eq_getElem?_getD]; unfold nmL at e; rw [e]; rfl⟩
theorem aeE {S:Sh}{i:Nat}{r:Str×Nat}(h:S[i]? = some r):sv S i=(r.2:Nat):=by
 simp [sv,List.getD,List.getElem?_map,h]
theorem rg {c:List Int}{i:Nat}(h:i < c.length):c[i]? = some (cv c i):=by
 simp [cv,List.getD,List.getElem?_eq_getElem h]
def acs (S:Sh)(c:List Int)(t:Int)(j:Nat):Bool:=decide (cv c j * (wn S:Nat) / sv S j<=t)
def kH (S:Sh)(c:List Int)(t:Int)(n:Nat):List Nat:=(List.range n).filter (acs S c t)
def rdS (S:Sh)(j:Nat):PyData:=(S.map cC).getD j .none
theorem xR {S:Sh}{j:Nat}{r:Str×Nat}(h:S[j]? = some r):rdS S j=cC r:=by simp [rdS,List.getD,List.getElem?_map,h]
theorem pq (S:Sh)(c:List Int)(t:Int)(n:Nat):kH S c t (n+1)=if acs S c t n=true then kH S c t n++[n] else kH S c t n:=by
 unfold kH
 rw [List.range_succ,List.filter_append]
 cases h:acs S c t n with
 | true=>simp [h]
 | false=>simp [h]
theorem jj {S:Sh}{c:List Int}{t:Int}{n j:Nat}:j∈kH S c t n ↔ j < n/\Rl S c t j:=by
 unfold kH acs Rl
 simp
theorem abQ {S:Sh}{c:List Int}{t:Int}{n:Nat}:(kH S c t n).Pairwise (· < ·):=by
 unfold kH
 exact List.Pairwise.sublist List.filter_sublist List.pairwise_lt_range
theorem afW {l:List Nat}(h:l.Pairwise (· < ·)){i j a b:Nat}(hi:l[i]? = some a)(hj:l[j]? = some b)(hab:a < b):i < j:=by
 obtain ⟨h1,e1⟩:=List.getElem?_eq_some_iff.mp hi
 obtain ⟨h2,e2⟩:=List.getElem?_eq_some_iff.mp hj
 rcases Nat.lt_trichotomy i j with e | e | e
 ·exact e
 ·subst e; omega
 ·have:=List.pairwise_iff_getElem.mp h j i h2 h1 e
  omega
theorem yQ {S:Sh}{c:List Int}{t:Int}{i j:Nat}(hj:(kH S c t S.length)[i]? = some j)
  (hb:∀ m,m < (kH S c t S.length).length->Du S c ((kH S c t S.length).getD i 0)<=Du S c ((kH S c t S.length).getD m 0)/\(m < i->Du S c ((kH S c t S.length).getD i 0) < Du S c ((kH S c t S.length).getD m 0))):tZ S c t j:=by
 have hm:=jj.mp (List.mem_of_getElem? hj)
 have ej:(kH S c t S.length).getD i 0=j:=by simp [List.getD,hj]
 refine ⟨hm.1,hm.2,λ j' hj' hr'=>?_⟩
 obtain ⟨m,hm1,hm2⟩:=List.mem_iff_getElem.mp (jj.mpr ⟨hj',hr'⟩)
 have em:(kH S c t S.length)[m]? = some j':=by rw [List.getElem?_eq_getElem hm1,hm2]
 have e2:(kH S c t S.length).getD m 0=j':=by simp [List.getD,em]
 have h:=hb m hm1
 rw [ej,e2] at h
 exact ⟨h.1,λ z=>h.2 (afW abQ em hj z)⟩
theorem zm (S:Sh)(t:Nat):rw0 S (t+1)=rw0 S t++[nmS S (own S t)]:=by
 unfold rw0
 rw [List.range_succ,List.map_append]
 rfl
theorem yb (a:List Str)(z:Str):a6 (a++[z])=a6 a++[.d (.str z)]:=by simp [a6]
abbrev cdR:MO:=.code eE ⟨46,41,46,92⟩
def cj:SpD:=λ ws M Q=>∃ S:Sh,ws=[.d (shD S)]/\OkS S/\M af=some cdR/\∀ p M',M p=none->M' p=some (.lst (a6 (rw0 S (wn S))))->Ext M M'->Q (.m p) M'
theorem oq:∀ ws M Q,cj ws M Q->ws.length=1:=by rintro ws M Q ⟨S,rfl,_⟩; rfl
theorem mP:∀ ws M Q,cj ws M Q->lW cV { nx:=λ _ M'=>Q (.d .none) M',rt:=Q } (aQ lL ws) M:=by
 rintro ws M Q ⟨S,rfl,hO,hC,k⟩
 have sl:=s16
 have wp:=xG hO
 have h4:=hO.len
 have nd:(nmL S).Nodup:=hO.nd
 refine ⟨_,rfl,_,rfl,?_⟩
 rw [List.map_map]
 refine gw S (W.d ∘ cC) (λ r=>.int (r.2:Nat)) (λ τ=>∃ x y,τ=[x,y]) (by omega) ⟨_,_,rfl⟩ (λ r hr τ hτ R h=>?_) (λ τ=>?_)
 ·obtain ⟨x,y,rfl⟩:=hτ
  exact ⟨_,rfl,rfl,_,_,rfl,_,_,rfl,rfl,_,rfl,_,rfl,h _ ⟨_,_,rfl⟩⟩
 have es:(S.map λ r=>PyData.int ((r.2:Nat):Int))=(ss S).map PyData.int:=by simp [ss]
 refine ⟨_,ss S,rfl,by rw [es]; exact .d,by simp [ss]; omega,λ n hn=>?_,?_⟩
 ·obtain ⟨r,hr,rfl⟩:=List.mem_map.mp hn
  have:=(hO.row r hr).2
  omega
 rw [aaI]
 refine ⟨_,rfl,_,rfl,λ d hd=>?_⟩
 refine ⟨λ i τ M'=>M'=aK M d (.dic (kvL ((nmL S).take i) (List.replicate i 0)))/\∃ x y,τ=[x,y],⟨rfl,_,_,rfl⟩,?_,?_⟩
 ·rintro i w τ M' hw ⟨rfl,x,y,rfl⟩
  rw [List.map_map] at hw
  obtain ⟨r,hr,rfl⟩:=eh hw
  have hi:=(List.getElem?_eq_some_iff.mp hr).1
  obtain ⟨hn,_⟩:=mH hr
  refine ⟨_,rfl,rfl,_,_,rfl,_,_,rfl,rfl,_,rfl,_,.inr r.1,aa,rfl,?_,?_,_,_,rfl⟩
  ·have:(kvL ((nmL S).take i) (List.replicate i 0)).length<=i:=by simp [kvL]; omega
   omega
  ·have ht:(nmL S).take (i+1)=(nmL S).take i++[r.1]:=by rw [List.take_succ,hn]; rfl
   rw [jW,tD (N:=(nmL S).take i) (by rw [List.length_take]; simp [nmL]; omega) (jz nd hn),ht]
 rintro τ M1 ⟨e1,x,y,rfl⟩
 have hd1:M1 d=some (.dic (kvL (nmL S) (st S 0))):=by
  rw [e1,aa]
  have:(nmL S).take ((S.map cC).map W.d).length=nmL S:=List.take_of_length_le (by simp [nmL])
  rw [this]
  simp [st]
 have x1:Ext M M1:=by rw [e1]; exact Ext.new hd
 refine ⟨few (by simp),λ a ha=>?_⟩
 have da:d≠a:=λ e=>by rw [e,ha] at hd1; cases hd1
 have haM:M a=none:=by
  cases q:M a with
  | none=>rfl
  | some o=>rw [x1 a o q] at ha; cases ha
 refine ⟨_,rfl,_,rfl,by omega,by omega,?_⟩
 refine ⟨λ t τ M'=>M' d=some (.dic (kvL (nmL S) (st S t)))/\M' a=some (.lst (a6 (rw0 S t)))/\Ext M M'/\∃ x4 x5 x6 x7,τ=[some (.d (shD S)),some (.d (.int ((wn S:Nat):Int))),some (.m d),some (.m a),x4,x5,x6,x7],⟨by rw [ah da]; exact hd1,aa,x1.trans (Ext.new ha),_,_,_,_,rfl⟩,?_,?_⟩
 ·rintro t w τ M2 hw ⟨md,ma,x2,x4,x5,x6,x7,rfl⟩
  obtain ⟨ht,rfl⟩:=sU hw
  have ht:t < wn S:=by omega
  rw [Int.zero_add]
  have ok:=kg hO t
  have nl:(nmL S).length=(st S t).length:=by rw [ok.len]; simp [nmL]
  have get:∀ {j r},S[j]? = some r->fq (kvL (nmL S) (st S t)) (.inr r.1)=some (.d (.int (cv (st S t) j))):=λ {j r} hj =>
   gA nd (mH hj).1 (rg (by rw [ok.len]; exact (List.getElem?_eq_some_iff.mp hj).1))
  refine ⟨_,rfl,_,rfl,?_⟩
  refine ⟨λ i acc τ M'=>M'=M2/\acc=(kH S (st S t) t i).map (rdS S)/\∃ x y,τ=[x,y,some (.m d),some (.d (.int ((wn S:Nat):Int))),some (.d (.int (t:Int)))],⟨rfl,rfl,_,_,rfl⟩,?_,?_⟩
  ·rintro i w acc τ M' hw ⟨rfl,rfl,x,y,rfl⟩
   rw [List.map_map] at hw
   obtain ⟨r,hr,rfl⟩:=eh hw
   have hi:=(List.getElem?_eq_some_iff.mp hr).1
   have hrow:=hO.row r (List.mem_of_getElem? hr)
   have hacc:((kH S (st S t) t i).map (rdS S)).length<=i:=by
    rw [List.length_map]
    have:=List.length_filter_le (acs S (st S t) t) (List.range i)
    rw [List.length_range] at this
    exact this
   refine ⟨by omega,_,rfl,rfl,_,_,rfl,_,_,rfl,rfl,?_⟩
   have eb:acs S (st S t) t i=decide (cv (st S t) i * ((wn S:Nat):Int) / ((r.2:Nat):Int)<=(t:Int)):=by unfold acs; rw [aeE hr]
   refine ⟨_,rfl,_,rfl,d,_,.inr r.1,_,rfl,.inl md,rfl,get hr,_,rfl,_,_,rfl,rfl,.inr ⟨by omega,by omega⟩,_,rfl,_,_,rfl,rfl,⟨by omega,by omega⟩,_,rfl,.inl ⟨_,_,rfl,rfl,_,rfl,?_⟩⟩
   refine g9 (λ h=>?_) (λ h=>?_)
   ·refine ⟨_,rfl,_,rfl,_,rfl,few (by simp),_,rfl,rfl,?_,_,_,rfl⟩
    rw [pq,if_pos (eb.trans h),List.map_append]
    show _=_++[rdS S i]
    rw [xR hr]
    rfl
   ·refine ⟨rfl,?_,_,_,rfl⟩
    rw [pq,if_neg (by rw [eb.trans h]; decide)]
  ·rintro acc τ M' ⟨rfl,rfl,x,y,rfl⟩
   rw [List.length_map,List.length_map]
   have hb:=jJ hO t
   have hne:(kH S (st S t) t S.length).map (rdS S)≠[]:=by
    intro e
    have hm:=jj.mpr ⟨hb.1,hb.2.1⟩
    rw [List.map_eq_nil_iff.mp e] at hm
    cases hm
   refine ⟨_,rfl,_,rfl,hne,x2 _ _ hC,λ i=>Du S (st S t) ((kH S (st S t) t S.length).getD i 0),λ i d' hd'=>?_,λ i d' hd' hbest=>?_⟩
   ·obtain ⟨j,hj,rfl⟩:=eh hd'
    have hjn:=(jj.mp (List.mem_of_getElem? hj)).1
    obtain ⟨r,hr⟩:∃ r,S[j]? = some r:=⟨_,List.getElem?_eq_getElem hjn⟩
    have hrow:=hO.row r (List.mem_of_getElem? hr)
    have ej:(kH S (st S t) t S.length).getD i 0=j:=by simp [List.getD,hj]
    rw [xR hr]
    refine ⟨_,rfl,_,rfl,0,_,rfl,rfl,rfl,d,_,.inr r.1,_,rfl,.inl md,rfl,get hr,_,rfl,_,rfl,1,_,rfl,rfl,rfl,cv (st S t) j,(wn S:Nat),(r.2:Nat),rfl,by omega,by omega,by omega,by omega,?_,rfl⟩
    show W.d (.int (due _ _ _))=W.d (.int (Du S (st S t) _))
    rw [ej]
    unfold Du
    rw [aeE hr]
   ·obtain ⟨j,hj,rfl⟩:=eh hd'
    have hB:tZ S (st S t) t j:=yQ hj λ m hm=>hbest m (by rw [List.length_map]; exact hm)
    have hpk:pk S (st S t) t=j:=ae5 hB
    obtain ⟨r,hr⟩:∃ r,S[j]? = some r:=⟨_,List.getElem?_eq_getElem hB.1⟩
    rw [xR hr]
    refine ⟨_,rfl,rfl,_,_,rfl,_,_,rfl,rfl,?_⟩
    refine ⟨_,rfl,_,rfl,d,_,.inr r.1,_,rfl,rfl,md,get hr,?_,1,rfl,rfl,?_⟩
    ·have:(kvL (nmL S) (st S t)).length<=4:=by simp [kvL,nmL]; omega
     omega
    rw [j4 nd nl (mH hr).1]
    have est:(st S t).set j (cv (st S t) j+1)=st S (t+1):=by rw [<- hpk]; rfl
    rw [est]
    refine ⟨_,rfl,a,_,rfl,by rw [ah (Ne.symm da)]; exact ma,_,rfl,_,by rw [ah (Ne.symm da)]; exact ma,?_,?_⟩
    ·have:(a6 (rw0 S t)).length=t:=by simp [a6,rw0]
     omega
    refine ⟨by rw [ah da,aa],?_,λ b o e=>?_,_,_,_,_,rfl⟩
    ·rw [aa,zm,yb]
     have:own S t=j:=hpk
     rw [this,(mH hr).2]
    ·have b1:b≠a:=λ z=>by rw [z,haM] at e; cases e
     have b2:b≠d:=λ z=>by rw [z,hd] at e; cases e
     rw [ah b1,ah b2]
     exact x2 b o e
 ·rintro τ M2 ⟨md,ma,x2,x4,x5,x6,x7,rfl⟩
  have el:(iR 0 ((wn S:Nat):Int).toNat).length=wn S:=by simp [iR]
  rw [el] at ma
  exact ⟨_,rfl,k a M2 haM ma x2⟩
theorem lh:∀ (cs:List Nat) (acc:Array Nat),((cs.map λ c=>(⟨#[c]⟩:Str)).foldl (λ acc p=>acc++("" : Str).cps++p.cps) acc).toList=acc.toList++cs
 | [],acc=>by simp
 | c :: cs,acc=>by
  have e:("" : Str).cps = #[]:=by decide +kernel
  rw [List.map_cons,List.foldl_cons,lh cs]
  rw [e]
  simp
theorem uN (cs:List Nat):(Txt.join "" (cs.map λ c=>(⟨#[c]⟩:Str))).cps.toList=cs:=by
 cases cs with
 | nil=>simp [Txt.join,Builtin.Str.glued,Str.empty]
 | cons c cs =>
  show (((cs.map λ c=>(⟨#[c]⟩:Str)).foldl (λ acc p=>acc++("" : Str).cps++p.cps) #[c])).toList=_
  rw [lh]
  rfl
theorem rp:∀ c∈iT.cps.toList,gq c=true:=by decide +kernel
theorem xp (cs:List Nat):((cs.map λ c=>(⟨#[c]⟩:Str)).map (·.length)).sum=cs.length:=by
 induction cs with
 | nil=>rfl
 | cons c cs ih =>
  simp only [List.map_cons,List.sum_cons,ih,List.length_cons]
  show 1+cs.length=_
  omega
theorem ou (x y:Str):(x++y).cps.toList=x.cps.toList++y.cps.toList:=by show (x.cps++y.cps).toList=_; simp
theorem oR {z:Str}{lo hi:Option Int}{c:Nat}(hc:c∈(Txt.slice z lo hi).cps.toList):c∈z.cps.toList:=by
 unfold Txt.slice at hc
 split at hc
 ·exact hc
 ·have hc':c∈(Builtin.Str.strSliceIndices lo hi 1 z.length).filterMap (z.cps[·]?):=by simpa using hc
  obtain ⟨i,_,e⟩:=List.mem_filterMap.mp hc'
  simpa using Array.mem_of_getElem? e
theorem sH {z:Str}{lo hi:Option Int}:(Txt.slice z lo hi).length<=(Builtin.Str.strSliceIndices lo hi 1 z.length).length:=by
 unfold Txt.slice
 split
 ·rename_i h
  simp at h
  omega
 ·show (List.filterMap _ _).toArray.size<=_
  rw [List.size_toArray]
  exact List.length_filterMap_le _ _
theorem two_parts {z:Str}{a:Int}(h0:0<=a)(h1:a<=z.length):(Txt.slice z none (some a)).length+(Txt.slice z (some a) none).length<=z.length:=by
 have e1:=sH (z:=z) (lo:=none) (hi:=some a)
 have e2:=sH (z:=z) (lo:=some a) (hi:=none)
 have f1:(Builtin.Str.strSliceIndices none (some a) 1 z.length).length<=a.toNat:=by
  unfold Builtin.Str.strSliceIndices sliceRange
  simp only [show (1:Int) > 0 by decide,if_true,List.length_map,List.length_range]
  split <;> (try split) <;> (try split) <;> (try simp only [Int.ediv_one]) <;> omega
 have f2:(Builtin.Str.strSliceIndices (some a) none 1 z.length).length<=z.length - a.toNat:=by
  unfold Builtin.Str.strSliceIndices sliceRange
  simp only [show (1:Int) > 0 by decide,if_true,List.length_map,List.length_range]
  split <;> (try split) <;> (try split) <;> (try simp only [Int.ediv_one]) <;> omega
 omega
def o8:List Int:=[1,3,5,7,9,25]
theorem yC:∀ r < 26,iT.cps.toList[r]? = some (97+r):=by decide +kernel
theorem acN {M:MH}{i:Int}(h0:0<=i)(h1:i < 26):ixW M (.d (.str iT)) i=some (.d (.str ⟨#[97+i.toNat]⟩)):=by
 obtain ⟨n,rfl⟩:=Int.eq_ofNat_of_zero_le h0
 simp only [ixW]
 rw [qp (yC n (by omega))]
 rfl
theorem rM:∀ a < 26,∀ s∈[1,3,5,7,9,25],∀ i < 4,∀ j < 4,(a+s * i) % 26=(a+s * j) % 26->i=j:=by decide +kernel
theorem um:∀ r < 26,gq (97+r)=true:=by decide +kernel
def j7 (z:Str)(pl:Int)(c:Nat):Str:=Txt.slice z none (some pl)++(⟨#[c]⟩:Str)++Txt.slice z (some pl) none
theorem wt {z:Str}{pl:Int}{c d:Nat}(h:j7 z pl c=j7 z pl d):c=d:=by
 have e:=congrArg (λ x:Str=>x.cps.toList) h
 simp only [j7,ou] at e
 have e2:=List.append_cancel_right e
 have e3:=List.append_cancel_left e2
 have e4:[c]=[d]:=e3
 simpa using e4
theorem yF {z:Str}{pl:Int}{c:Nat}(hz:∀ x∈z.cps.toList,gq x=true)(hl:z.length<=7)(h0:0<=pl)(h1:pl<=z.length)(hc:gq c=true):wd (j7 z pl c)=true:=by
 have e:(j7 z pl c).cps.toList=(Txt.slice z none (some pl)).cps.toList++[c]++(Txt.slice z (some pl) none).cps.toList:=by
  simp only [j7,ou]
 have el:(j7 z pl c).length=(Txt.slice z none (some pl)).length+1+(Txt.slice z (some pl) none).length:=by
  rw [<- str_len,e,List.length_append,List.length_append,str_len,str_len]
  rfl
 have:=two_parts h0 h1
 unfold wd
 rw [decide_eq_true (show 1<=(j7 z pl c).length by omega),decide_eq_true (show (j7 z pl c).length<=8 by omega),Bool.true_and,Bool.true_and,List.all_eq_true]
 intro x hx
 rw [e] at hx
 rcases List.mem_append.mp hx with hx | hx
 ·rcases List.mem_append.mp hx with hx | hx
  ·exact hz x (oR hx)
  ·rw [List.mem_singleton.mp hx]; exact hc
 ·exact hz x (oR hx)
def Fr (M M':MH)(p:Addr):Prop:=∀ q o,q≠p->M q=some o->M' q=some o
theorem Fr.of {M M':MH}{p:Addr}(h:∀ q,q≠p->M' q=M q):Fr M M' p:=λ q o n e=>by rw [h q n]; exact e
def sgn (at' st':Int)(j:Nat):Nat:=97+((at'+st' * j) % 26).toNat
theorem acJ {at' st':Int}{i j:Nat}(a0:0<=at')(a1:at' < 26)(hs:st'∈o8)(hi:i < 4)(hj:j < 4)(h:sgn at' st' i=sgn at' st' j):i=j:=by
 obtain ⟨a,rfl⟩:=Int.eq_ofNat_of_zero_le a0
 have hs0:∀ s∈o8,0<=s/\s.toNat∈[1,3,5,7,9,25]:=by decide
 obtain ⟨s0,sm⟩:=hs0 st' hs
 obtain ⟨s,rfl⟩:=Int.eq_ofNat_of_zero_le s0
 unfold sgn at h
 refine rM a (by omega) s (by simpa using sm) i hi j hj ?_
 have e:∀ k:Nat,(((a:Nat):Int)+((s:Nat):Int) * ((k:Nat):Int)) % 26=(((a+s * k) % 26:Nat):Int):=λ k=>by
  rw [<- Int.natCast_mul,<- Int.natCast_add]
  rfl
 rw [e,e] at h
 omega
def aZ:SpD:=λ ws M Q=>∃ p:Addr,ws=[.m p]/\Bag M p/\∀ (S:Sh) M',OkS S->Bag M' p->Fr M M' p->Q (.d (shD S)) M'
theorem oF:∀ ws M Q,aZ ws M Q->ws.length=1:=by rintro ws M Q ⟨p,rfl,_⟩; rfl
inductive ShP (z:Str) (at' st' pl:Int) (p a:Addr) (M:MH) (i:Nat) (τ:DS) (M':MH):Prop
 | mk (z0:Bag M' p) (z1:Fr M M' p) (R:Sh) (z2:M' a=some (.lst ((R.map cC).map W.d))) (z3:R.length=i) (z4:∀ j r,R[j]? = some r->r.1=j7 z pl (sgn at' st' j)/\1<=r.2/\r.2<=9) (x7 x8 x9 x10:Option W) (z5:τ=[some (.m p),some (.d (.str iT)),some (.d (.str z)),some (.d (.int at')),some (.d (.int st')),some (.d (.int pl)),some (.m a),x7,x8,x9,x10]):ShP z at' st' pl p a M i τ M'
theorem nG:∀ ws M Q,aZ ws M Q->lZ ax { nx:=λ _ M'=>Q (.d .none) M',rt:=Q } (aQ l5 ws) M:=by
 rintro ws M Q ⟨p,rfl,hb,k⟩
 have s16':=s16
 have e0:("" : Str).length=0:=by decide +kernel
 have fitA:yz (.d (.str iT))=true:=by decide +kernel
 refine ⟨⟨_,rfl⟩,_,rfl,p,8,rfl,hb,by decide,by decide,λ n M1 n0 n1 b1 f1=>⟨n,rfl,by omega,by omega,?_⟩⟩
 dsimp only
 refine ⟨λ i acc τ M'=>Bag M' p/\(∀ q,q≠p->M' q=M q)/\(∃ cs:List Nat,acc=cs.map (λ c=>PyData.str ⟨#[c]⟩)/\cs.length=i/\∀ c∈cs,gq c=true)/\∃ x,τ=[x,some (.d (.str iT)),some (.m p)],⟨b1,f1,⟨[],rfl,rfl,λ _ h=>nomatch h⟩,_,rfl⟩,?_,?_⟩
 ·rintro i w acc τ M' hw ⟨b,f,⟨cs,rfl,hl,hc⟩,x,rfl⟩
  obtain ⟨hi,rfl⟩:=sU hw
  refine ⟨by rw [List.length_map]; omega,_,rfl,_,rfl,p,26,rfl,b,by decide,by decide,λ r M3 r0 r1 b3 f3=>?_⟩
  obtain ⟨c,hc1,hm⟩:=v3 (M:=M3) (z:=iT) r0 (by rw [ac4]; exact r1)
  refine ⟨r,_,rfl,hc1,fitA,_,rfl,b3,λ q hq=>(f3 q hq).trans (f q hq),⟨cs++[c],by simp,by simp [hl],λ c' h'=>?_⟩,_,rfl⟩
  rcases List.mem_append.mp h' with h' | h'
  ·exact hc c' h'
  ·rw [List.mem_singleton.mp h']; exact rp c hm
 rintro acc τ M2 ⟨b2,f2,⟨cs,rfl,hl,hc⟩,x,rfl⟩
 simp only [iR,List.length_map,List.length_range] at hl
 refine ⟨"",cs.map λ c=>⟨#[c]⟩,rfl,by rw [List.map_map]; rfl,by rw [xp,e0]; omega,?_⟩
 have hz:=uN cs
 have hzl:(Txt.join "" (cs.map λ c=>(⟨#[c]⟩:Str))).length=cs.length:=by rw [<- str_len,hz]
 generalize Txt.join "" (cs.map λ c=>(⟨#[c]⟩:Str))=z at hz hzl
 have hzs:∀ x∈z.cps.toList,gq x=true:=by rw [hz]; exact hc
 have fitZ:yz (.d (.str z))=true:=decide_eq_true (by omega)
 refine ⟨_,rfl,p,26,rfl,b2,by decide,by decide,λ at' M3 a0 a1 b3 f3=>?_⟩
 refine ⟨_,rfl,few (by simp),_,rfl,p,6,rfl,b3,by decide,by decide,λ r M4 r0 r1 b4 f4=>?_⟩
 obtain ⟨st',es,hs⟩:=jL (M:=M4) (ns:=o8) r0 (by simpa [o8] using r1)
 have hs25:0<=st'/\st'<=25:=by
  have:∀ s∈o8,0<=s/\s<=25:=by decide
  exact this st' hs
 refine ⟨r,_,rfl,es,rfl,?_⟩
 refine ⟨_,rfl,_,rfl,_,_,rfl,rfl,fitZ,.inl ⟨_,_,rfl,rfl,p,_,rfl,b4,by omega,by omega,λ pl M5 p0 p1 b5 f5=>?_⟩⟩
 refine ⟨few (by simp),λ a ha=>?_⟩
 have pa:p≠a:=λ e=>by obtain ⟨o,ho⟩:=aek b5; rw [e,ha] at ho; cases ho
 have F5:Fr M M5 p:=Fr.of λ q hq=>by rw [f5 q hq,f4 q hq,f3 q hq,f2 q hq]
 refine ⟨_,rfl,p,4,rfl,nO b5 (ah pa),by decide,by decide,λ c M6 c0 c1 b6 f6=>.inl ⟨_,_,rfl,rfl,1+c,rfl,by omega,by omega,?_⟩⟩
 refine ⟨λ i τ M'=>ShP z at' st' pl p a M i τ M',⟨b6,λ q o nq e=>?_,[],?_,rfl,λ j r h=>by simp at h,_,_,_,_,rfl⟩,?_,?_⟩
 ·have qa:q≠a:=λ z=>by have:=F5 q o nq e; rw [z,ha] at this; cases this
  rw [f6 q nq,ah qa]
  exact F5 q o nq e
 ·rw [f6 a (Ne.symm pa),aa]
  rfl
 ·rintro i w τ M' hw ⟨b,f,R,ma,hR,hr,x7,x8,x9,x10,rfl⟩
  obtain ⟨hi,rfl⟩:=sU hw
  rw [Int.zero_add]
  have hi4:i < 4:=by omega
  have hmod:=Int.emod_nonneg (at'+st' * (i:Int)) (show (26:Int)≠0 by decide)
  have hmod2:=Int.emod_lt_of_pos (at'+st' * (i:Int)) (show (0:Int) < 26 by decide)
  refine ⟨_,rfl,_,rfl,_,rfl,_,rfl,_,_,rfl,rfl,.inl ⟨by omega,by omega⟩,.inl ⟨_,_,rfl,rfl,_,_,rfl,rfl,show (0:Int) < 26 by decide,_,_,rfl,acN hmod hmod2,fitA,?_⟩⟩
  have lc:(⟨#[sgn at' st' i]⟩:Str).length=1:=rfl
  have l1:=PySem.Txt.slice_le z none (some pl)
  have l2:=PySem.Txt.slice_le z (some pl) none
  refine ⟨_,rfl,_,rfl,_,rfl,_,rfl,fitZ,_,rfl,.inr ⟨_,_,rfl,rfl,?_,_,rfl,_,rfl,_,rfl,_,rfl,fitZ,.inr ⟨_,_,rfl,rfl,?_,?_⟩⟩⟩
  ·show (Txt.slice z none (some pl)).length+(⟨#[sgn at' st' i]⟩:Str).length<=sizeLine
   rw [lc]; omega
  ·show (Txt.slice z none (some pl)++(⟨#[sgn at' st' i]⟩:Str)).length+_<=sizeLine
   rw [len_app,lc]; omega
  refine ⟨_,rfl,p,9,rfl,b,by decide,by decide,λ v1 M7 v10 v11 b7 f7=>.inl ⟨_,_,rfl,rfl,_,rfl,p,3,rfl,b7,by decide,by decide,λ v2 M8 v20 v21 b8 f8=>.inl ⟨_,_,rfl,rfl,_,rfl,few (by simp),?_⟩⟩⟩
  have ma8:M8 a=some (.lst ((R.map cC).map W.d)):=by rw [f8 a (Ne.symm pa),f7 a (Ne.symm pa)]; exact ma
  refine ⟨_,rfl,a,_,rfl,ma8,_,rfl,_,rfl,_,rfl,p,4,rfl,b8,by decide,by decide,λ r M9 r0 r1 b9 f9=>?_⟩
  have ma9:M9 a=some (.lst ((R.map cC).map W.d)):=by rw [f9 a (Ne.symm pa)]; exact ma8
  obtain ⟨v,ev,hv⟩:=jL (M:=M9) (ns:=[1+v1,1,9,1+v2]) r0 (by simpa using r1)
  have hv9:1<=v/\v<=9:=by
   simp only [List.mem_cons,List.not_mem_nil,or_false] at hv
   rcases hv with rfl | rfl | rfl | rfl <;> omega
  obtain ⟨vn,rfl⟩:=Int.eq_ofNat_of_zero_le (show 0<=v by omega)
  refine ⟨r,_,rfl,ev,rfl,_,rfl,few (by simp),_,ma9,by simp; omega,nO b9 (ah pa),λ q o nq e=>?_,R++[(j7 z pl (sgn at' st' i),vn)],?_,by simp [hR],λ j r' h=>?_,_,_,_,_,rfl⟩
  ·have qa:q≠a:=λ z'=>by have:=F5 q o nq e; rw [z',ha] at this; cases this
   rw [ah qa,f9 q nq,f8 q nq,f7 q nq]
   exact f q o nq e
  ·rw [aa,List.map_append,List.map_append]
   rfl
  ·by_cases hj:j < R.length
   ·rw [List.getElem?_append_left hj] at h
    exact hr j r' h
   ·rw [List.getElem?_append_right (by omega)] at h
    have hlt:=(List.getElem?_eq_some_iff.mp h).1
    simp at hlt
    have ej:j=i:=by omega
    subst ej
    rw [hR,Nat.sub_self] at h
    simp at h
    subst h
    exact ⟨rfl,by omega,by omega⟩
 ·rintro τ M' ⟨b,f,R,ma,hR,hr,x7,x8,x9,x10,rfl⟩
  simp only [iR,List.length_map,List.length_range] at hR
  have hRl:1<=R.length/\R.length<=4:=by omega
  refine ⟨_,rfl,a,_,rfl,ma,k R _ ⟨λ e=>by rw [e] at hRl; simp at hRl,hRl.2,λ r hm=>?_,?_⟩ ?_ ?_⟩
  ·obtain ⟨j,hj,e⟩:=List.mem_iff_getElem.mp hm
   obtain ⟨h1,h2,h3⟩:=hr j r (by rw [<- e]; exact List.getElem?_eq_getElem hj)
   refine ⟨?_,h2,h3⟩
   rw [h1]
   refine yF hzs (by omega) p0 (by omega) (um _ ?_)
   have:=Int.emod_lt_of_pos (at'+st' * (j:Int)) (show (0:Int) < 26 by decide)
   omega
  ·rw [List.nodup_iff_pairwise_ne,List.pairwise_iff_getElem]
   intro i j hi hj hij e
   rw [List.getElem_map,List.getElem_map] at e
   have hi':i < R.length:=by simpa using hi
   have hj':j < R.length:=by simpa using hj
   rw [(hr i _ (List.getElem?_eq_getElem hi')).1,(hr j _ (List.getElem?_eq_getElem hj')).1] at e
   have:=acJ a0 a1 hs (by omega) (by omega) (wt e)
   omega
  ·refine nO b ?_
   simp only [jV,if_neg pa]
  ·intro q o nq e
   have qa:q≠a:=λ z'=>by have:=F5 q o nq e; rw [z',ha] at this; cases this
   simp only [jV,if_neg qa]
   exact f q o nq e
theorem acY {S:Sh}{m t:Nat}(h:t < m):(a6 (rw0 S m))[t]? = some (.d (.str (nmS S (own S t)))):=by
 simp [a6,rw0,List.getElem?_map,List.getElem?_range h]
theorem xq {N:List Str}{c:List Int}{z:Str}{x:Int}(hn:N.length=c.length)(hz:z ∉ N):p9 (kvL N c) (.inr z) (.d (.int x))=kvL (N++[z]) (c++[x]):=by
 have hno:∀ p∈kvL N c,decide (p.1=(.inr z:Key))=false:=by
  intro p hp
  unfold kvL at hp
  obtain ⟨j,hj,ej⟩:=List.mem_iff_getElem.mp hp
  rw [List.getElem_zipWith] at ej
  subst ej
  refine decide_eq_false λ e=>hz ?_
  have:N[j]'(by simp at hj; omega)=z:=Sum.inr.inj e
  exact this ▸ List.getElem_mem _
 unfold p9
 rw [if_neg (by rw [Bool.not_eq_true,List.any_eq_false]; intro p hp; simpa using hno p hp)]
 unfold kvL
 rw [List.zipWith_append hn]
 rfl
theorem mr (S:Sh)(u:List Int):(kvL (nmL S) u).length<=S.length:=by
 simp [kvL,nmL]
 omega
abbrev FD (q r:Addr)(t:Int)(v:W):List (Str×W):=[("asks_waiting",.m q),("owner_round",.m r),("next_slot",.d (.int t)),("number_led",v)]
section
variable {q r:Addr}{t:Int}{v:W}
theorem aak:(FD q r t v).lookup ("asks_waiting" : Str)=some (.m q):=rfl
theorem afo:(FD q r t v).lookup ("owner_round" : Str)=some (.m r):=rfl
theorem agS:(FD q r t v).lookup ("next_slot" : Str)=some (.d (.int t)):=rfl
theorem aeu:(FD q r t v).lookup ("begin" : Str)=none:=rfl
theorem ac3:(FD q r t v).lookup ("new_shares" : Str)=none:=rfl
theorem acV:(FD q r t v).lookup ("waits" : Str)=none:=rfl
theorem afE:(FD q r t v).lookup ("is_waited_at" : Str)=none:=rfl
theorem afT:(FD q r t v).lookup ("owner" : Str)=none:=rfl
theorem agq:(FD q r t v).lookup ("ask" : Str)=none:=rfl
theorem ac5:(FD q r t v).lookup ("use" : Str)=none:=rfl
end
structure Dr (M:MH)(S:Sh)(d q r:Addr)(u:List Int)(t:Int)(v:W):Prop where
 hd:M d=some (.ins av (FD q r t v))
 hq:M q=some (.dic (kvL (nmL S) u))
 hr:M r=some (.lst (a6 (rw0 S (wn S))))
 lu:u.length=S.length
section
variable {M:MH}{S:Sh}{d q r:Addr}{u:List Int}{t:Int}{v:W}
theorem Dr.nq (h:Dr M S d q r u t v):d≠q:=acT h.hd h.hq (by intro z; cases z)
theorem Dr.qr (h:Dr M S d q r u t v):q≠r:=acT h.hq h.hr (by intro z; cases z)
theorem Dr.ext {M':MH}(h:Dr M S d q r u t v)(x:Ext M M'):Dr M' S d q r u t v:=⟨x _ _ h.hd,x _ _ h.hq,x _ _ h.hr,h.lu⟩
theorem Dr.get (h:Dr M S d q r u t v)(hO:OkS S){i:Nat}{z:Str}(hz:(nmL S)[i]? = some z):fq (kvL (nmL S) u) (.inr z)=some (.d (.int (cv u i))) :=
 gA hO.nd hz (rg (by rw [h.lu]; have:=(List.getElem?_eq_some_iff.mp hz).1; simpa [nmL] using this))
end
def aO:SpD:=λ ws M Q=>∃ (d q r:Addr) (t:Int) (v:W),ws=[.m d]/\M d=some (.ins av (FD q r t v))/\Q (.d .none) (aK M d (.ins av (FD q r 0 v)))
theorem kP:∀ ws M Q,aO ws M Q->ws.length=1:=by rintro ws M Q ⟨d,q,r,t,v,rfl,_⟩; rfl
theorem jN:∀ ws M Q,aO ws M Q->iS { nx:=λ _ M'=>Q (.d .none) M',rt:=Q } (aQ iI ws) M:=by
 rintro ws M Q ⟨d,q,r,t,v,rfl,hd,k⟩
 exact ⟨_,rfl,d,_,rfl,hd,(by show 4 < 1000; decide),k⟩
inductive dQ (ws:List W) (M:MH) (Q:QD):Prop
 | mk (S:Sh) (d q r:Addr) (t:Int) (v:W) (kvs:List (Key×W)) (u:List Int) (z0:ws=[.m d,.d (shD S)]) (z1:OkS S) (z2:M af=some cdR) (z3:M d=some (.ins av (FD q r t v))) (z4:M q=some (.dic kvs)) (z5:u.length=S.length) (z6:(∀ i z,(nmL S)[i]? = some z->(fq kvs (.inr z)).getD (.d (.int 0))=.d (.int (cv u i)))) (z7:∀ q' r' M',M q'=none->M r'=none->Dr M' S d q' r' u 0 v->Fr M M' d->Q (.d .none) M'):dQ ws M Q
def aA:SpD:=dQ
theorem gy:∀ ws M Q,aA ws M Q->ws.length=2:=by rintro ws M Q ⟨S,d,q,r,t,v,kvs,u,rfl,_⟩; rfl
theorem gc:∀ ws M Q,aA ws M Q->eA aV cj aO { nx:=λ _ M'=>Q (.d .none) M',rt:=Q } (aQ eF ws) M:=by
 rintro ws M Q ⟨S,d,q,r,t,v,kvs,u,rfl,hO,hC,hd,hq,lu,hu,k⟩
 have sl:=s16
 have h4:=hO.len
 have nd:(nmL S).Nodup:=hO.nd
 have nl:(nmL S).length=S.length:=by simp [nmL]
 refine ⟨_,rfl,S,rfl,hO,_,rfl,_,rfl,λ p hp=>?_⟩
 have pd:d≠p:=aW hd hp
 refine ⟨λ i τ M'=>M'=aK M p (.dic (kvL ((nmL S).take i) (u.take i)))/\∃ x y,τ=[x,y,some (.m d)],⟨rfl,_,_,rfl⟩,?_,?_⟩
 ·rintro i w τ M' hw ⟨rfl,x,y,rfl⟩
  rw [List.map_map] at hw
  obtain ⟨r',hr,rfl⟩:=eh hw
  have hi:=(List.getElem?_eq_some_iff.mp hr).1
  obtain ⟨hn,_⟩:=mH hr
  refine ⟨_,rfl,rfl,_,_,rfl,_,_,rfl,rfl,_,rfl,_,rfl,d,_,_,rfl,cJ hd hp,aak,.k (cJ hq hp),_,rfl,_,.k (k:=.inr r'.1) (cJ hq hp),_,.inr r'.1,aa,rfl,?_,?_,_,_,rfl⟩
  ·have:(kvL ((nmL S).take i) (u.take i)).length<=i:=by simp [kvL]; omega
   omega
  ·have ht:(nmL S).take (i+1)=(nmL S).take i++[r'.1]:=by rw [List.take_succ,hn]; rfl
   have hu':u.take (i+1)=u.take i++[cv u i]:=by rw [List.take_succ,rg (by omega)]; rfl
   rw [jW,hu i r'.1 hn,xq (by rw [List.length_take,List.length_take]; omega) (jz nd hn),ht,hu']
 rintro τ M1 ⟨e1,x,y,rfl⟩
 have hp1:M1 p=some (.dic (kvL (nmL S) u)):=by
  rw [e1,aa]
  have e2:(nmL S).take ((S.map cC).map W.d).length=nmL S:=List.take_of_length_le (by simp [nmL])
  have e3:u.take ((S.map cC).map W.d).length=u:=List.take_of_length_le (by simp [lu])
  rw [e2,e3]
 have x1:Ext M M1:=by rw [e1]; exact Ext.new hp
 refine ⟨_,rfl,d,_,rfl,x1 _ _ hd,(by show 4 < 1000; decide),?_⟩
 have hC1:(aK M1 d (.ins av (FD p r t v))) af=some cdR:=by
  rw [ah (acT hC hd (by intro z; cases z))]
  exact x1 _ _ hC
 refine ⟨_,rfl,S,rfl,hO,hC1,λ a M3 ha ma x3=>?_⟩
 have hd3:M3 d=some (.ins av (FD p r t v)):=x3 _ _ aa
 have hp3:M3 p=some (.dic (kvL (nmL S) u)):=x3 _ _ (by rw [ah (Ne.symm pd)]; exact hp1)
 have ad:a≠d:=λ e=>by rw [e] at ha; exact absurd (aa.symm.trans ha) (by intro z; cases z)
 refine ⟨_,rfl,d,_,rfl,hd3,(by show 4 < 1000; decide),?_⟩
 refine ⟨_,rfl,d,_,rfl,aa,aeu (q:=p) (r:=a) (t:=t) (v:=v),d,p,a,t,v,rfl,aa,?_⟩
 refine k p a _ hp (x1.none (by rw [ah ad] at ha; exact ha)) ⟨aa,?_,?_,lu⟩ λ b o n e=>?_
 ·rw [ah (Ne.symm pd),ah (Ne.symm pd)]; exact hp3
 ·rw [ah ad,ah ad]; exact ma
 ·rw [ah n,ah n]
  exact x3 _ _ (by rw [ah n]; exact x1 _ _ e)
def oe:SpD:=λ ws M Q=>∃ (S:Sh) (d:Addr),ws=[.m d,.d (shD S)]/\OkS S/\M af=some cdR/\M d=some (.ins av [])/\∀ q r M',M q=none->M r=none->Dr M' S d q r (List.replicate S.length 0) 0 (.d .none)->Fr M M' d->Q (.d .none) M'
def mU:SpD:=λ ws M Q=>∃ (d:Addr),ws=[.m d,.d .none]/\M d=some (.ins av [])/\∀ q r M',M q=none->M r=none->Dr M' [] d q r [] 0 (.d .none)->Fr M M' d->Q (.d .none) M'
def a9:SpD:=λ ws M Q=>oe ws M Q\/mU ws M Q
theorem nV:∀ ws M Q,a9 ws M Q->ws.length=2:=by rintro ws M Q (⟨S,d,rfl,_⟩ | ⟨d,rfl,_⟩) <;> rfl
theorem kU:∀ ws M Q,a9 ws M Q->jr aA { nx:=λ _ M'=>Q (.d .none) M',rt:=Q } (aQ jC ws) M:=by
 rintro ws M Q (⟨S,d,rfl,hO,hC,hd,k⟩ | ⟨d,rfl,hd,k⟩)
 case inr =>
  refine λ p hp=>⟨_,rfl,d,_,rfl,cJ hd hp,by decide,few (by simp),λ a ha=>⟨_,rfl,d,_,rfl,cJ aa ha,(by show 1 < 1000; decide),?_⟩⟩
  refine ⟨_,rfl,d,_,rfl,aa,(by show 2 < 1000; decide),_,rfl,d,_,rfl,aa,(by show 3 < 1000; decide),?_⟩
  have pd:d≠p:=aW hd hp
  have ha':aK (aK M p (.dic [])) d (.ins av (yy "asks_waiting" (.m p) [])) a=none:=ha
  have ad:a≠d:=λ e=>by rw [e,aa] at ha'; cases ha'
  have ap:a≠p:=λ e=>by rw [ah (e ▸ pd.symm),e,aa] at ha'; cases ha'
  have haM:M a=none:=by rw [ah ad,ah ap] at ha'; exact ha'
  refine ⟨_,rfl,rfl,_,rfl,kI ?_⟩
  refine k p a _ hp haM ⟨aa,?_,?_,rfl⟩ λ b o n e=>?_
  ·rw [ah pd.symm,ah pd.symm,ah pd.symm,ah ap.symm,ah pd.symm,aa]; rfl
  ·rw [ah ad,ah ad,ah ad,aa]; rfl
  ·rw [ah n,ah n,ah n,ah (aW e haM),ah n,ah (aW e hp)]; exact e
 refine λ p hp=>⟨_,rfl,d,_,rfl,cJ hd hp,by decide,few (by simp),λ a ha=>⟨_,rfl,d,_,rfl,cJ aa ha,(by show 1 < 1000; decide),?_⟩⟩
 refine ⟨_,rfl,d,_,rfl,aa,(by show 2 < 1000; decide),_,rfl,d,_,rfl,aa,(by show 3 < 1000; decide),?_⟩
 have pd:d≠p:=aW hd hp
 have ha':aK (aK M p (.dic [])) d (.ins av (yy "asks_waiting" (.m p) [])) a=none:=ha
 have ad:a≠d:=λ e=>by rw [e,aa] at ha'; cases ha'
 have ap:a≠p:=λ e=>by rw [ah (e ▸ pd.symm),e,aa] at ha'; cases ha'
 have haM:M a=none:=by rw [ah ad,ah ap] at ha'; exact ha'
 have cd:af≠d:=acT hC hd (by intro z; cases z)
 have cp:af≠p:=aW hC hp
 have ca:af≠a:=aW hC haM
 refine ⟨_,rfl,rfl,_,rfl,jK ?_⟩
 refine ⟨_,rfl,d,_,rfl,aa,ac3 (q:=p) (r:=a) (t:=0) (v:=.d .none),_,rfl,S,d,p,a,0,.d .none,[],List.replicate S.length 0,rfl,hO,?_,aa,?_,by simp,λ i z _=>?_,λ q' r' M' hq' hr' hD hF=>k q' r' M' ?_ ?_ hD λ b o n e=>hF b o n ?_⟩
 ·rw [ah cd,ah cd,ah cd,ah ca,ah cd,ah cp]; exact hC
 ·rw [ah pd.symm,ah pd.symm,ah pd.symm,ah ap.symm,ah pd.symm,aa]
 ·have:cv (List.replicate S.length 0) i=0:=xS S i
  rw [this]
  rfl
 ·cases e:M q' with
  | none=>rfl
  | some o =>
   have n:q'≠d:=λ z=>by rw [z] at hq'; exact absurd (aa.symm.trans hq') (by intro z; cases z)
   rw [ah n,ah n,ah n,ah (aW e haM),ah n,ah (aW e hp),e] at hq'
   cases hq'
 ·cases e:M r' with
  | none=>rfl
  | some o =>
   have n:r'≠d:=λ z=>by rw [z] at hr'; exact absurd (aa.symm.trans hr') (by intro z; cases z)
   rw [ah n,ah n,ah n,ah (aW e haM),ah n,ah (aW e hp),e] at hr'
   cases hr'
 ·rw [ah n,ah n,ah n,ah (aW e haM),ah n,ah (aW e hp)]; exact e
theorem yp {S:Sh}(hO:OkE S){i:Nat}{z:Str}(hz:(nmL S)[i]? = some z):wd z=true:=by
 obtain ⟨r,hr,e⟩:=List.mem_map.mp (List.mem_of_getElem? hz)
 rw [<- e]
 exact (hO.row r hr).1
theorem Dr.agM {M:MH}{S:Sh}{d q r:Addr}{u:List Int}{t:Int}{v:W}(h:Dr M S d q r u t v)(hO:OkE S){i:Nat}{z:Str}(hz:(nmL S)[i]? = some z):fq (kvL (nmL S) u) (.inr z)=some (.d (.int (cv u i))) :=
 gA hO.nd hz (rg (by rw [h.lu]; have:=(List.getElem?_eq_some_iff.mp hz).1; simpa [nmL] using this))
theorem tm {N:List Str}{c:List Int}{z:Str}(hz:z ∉ N):fq (kvL N c) (.inr z)=none:=by
 have hno:∀ p∈kvL N c,decide (p.1=(.inr z:Key))=false:=by
  intro p hp
  unfold kvL at hp
  obtain ⟨j,hj,ej⟩:=List.mem_iff_getElem.mp hp
  rw [List.getElem_zipWith] at ej
  subst ej
  refine decide_eq_false λ e=>hz ?_
  have:N[j]'(by simp at hj; omega)=z:=Sum.inr.inj e
  exact this ▸ List.getElem_mem _
 generalize kvL N c=l at hno
 induction l with
 | nil=>rfl
 | cons p l ih =>
  have h0:=hno p (by simp)
  have:=ih λ q hq=>hno q (by simp [hq])
  unfold fq at this ⊢
  simp only [List.find?,h0]
  exact this
inductive g6 (ws:List W) (M:MH) (Q:QD) (E:XQ):Prop
 | mk (S:Sh) (d q r:Addr) (u:List Int) (t:Int) (v:W) (z:Str) (z0:ws=[.m d,.d (.str z)]) (z1:OkE S) (z2:Dr M S d q r u t v) (z3:wd z=true) (z4:∀ i,(nmL S)[i]? = some z->Q (.d (.int (cv u i))) M) (z5:z ∉ nmL S->∀ a,M a=none->E a (aK M a (.exc aw [("name",.d (.str z))]))):g6 ws M Q E
def aM:SpX:=g6
theorem kL:∀ ws M Q E,aM ws M Q E->ws.length=2:=by rintro ws M Q E ⟨S,d,q,r,u,t,v,z,rfl,_⟩; rfl
theorem jo:∀ ws M Q E,aM ws M Q E->iJ (λ a _ M=>E a M) bu { nx:=λ _ M'=>Q (.d .none) M',rt:=Q } (aQ i6 ws) M:=by
 rintro ws M Q E ⟨S,d,q,r,u,t,v,z,rfl,hO,H,hw,k,x⟩
 refine ⟨_,rfl,z,rfl,hw,_,rfl,kI ⟨_,rfl,_,rfl,d,_,_,rfl,H.hd,aak,_,.k (k:=.inr z) H.hq,_,rfl,?_⟩⟩
 by_cases hm:z∈nmL S
 ·obtain ⟨i,hi,e⟩:=List.getElem_of_mem hm
  have hz:(nmL S)[i]? = some z:=by rw [List.getElem?_eq_getElem hi,e]
  have g:=H.agM hO hz
  rw [g]
  exact kI ⟨_,rfl,d,_,_,rfl,H.hd,aak,_,rfl,q,_,.inr z,_,rfl,.inl H.hq,rfl,g,k i hz⟩
 ·rw [tm hm]
  exact jK ⟨_,rfl,rfl,by simp,x hm⟩
def lin (n c:Int):Int:=if 0 > (if 40 - c < n then 40 - c else n) then 0 else (if 40 - c < n then 40 - c else n)
inductive jx (ws:List W) (M:MH) (Q:QD) (E:XQ):Prop
 | mk (S:Sh) (d q r:Addr) (u:List Int) (t:Int) (v:W) (z:Str) (n:Int) (z0:ws=[.m d,.d (.str z),.d (.int n)]) (z1:OkE S) (z2:Dr M S d q r u t v) (z3:wd z=true) (z4:∀ i,(nmL S)[i]? = some z->Q (.d (.int (lin n (cv u i)))) (aK M q (.dic (kvL (nmL S) (u.set i (cv u i+lin n (cv u i))))))) (z5:z ∉ nmL S->∀ a,M a=none->E a (aK M a (.exc aw [("name",.d (.str z))]))):jx ws M Q E
def ck:SpX:=jx
theorem pV:∀ ws M Q E,ck ws M Q E->ws.length=3:=by rintro ws M Q E ⟨S,d,q,r,u,t,v,z,n,rfl,_⟩; rfl
theorem nM:∀ ws M Q E,ck ws M Q E->lS (λ a _ M=>E a M) aM { nx:=λ _ M'=>Q (.d .none) M',rt:=Q } (aQ lp ws) M:=by
 rintro ws M Q E ⟨S,d,q,r,u,t,v,z,n,rfl,hO,H,hw,k,x⟩
 have sl:=s16
 have h4:=hO.len
 refine ⟨_,rfl,_,rfl,d,_,rfl,H.hd,acV,_,rfl,S,d,q,r,u,t,v,z,rfl,hO,H,hw,λ i hz=>?_,x⟩
 refine ⟨_,_,rfl,rfl,_,_,rfl,_,_,rfl,?_⟩
 refine ⟨_,rfl,d,_,_,rfl,H.hd,aak,_,rfl,q,_,.inr z,cv u i,rfl,rfl,H.hq,H.agM hO hz,?_,_,rfl,_,rfl,rfl,_,rfl,?_⟩
 ·have:=mr S u
  omega
 ·rw [j4 (N:=nmL S) hO.nd (by rw [H.lu]; simp [nmL]) hz]
  exact k i hz
def bE:SpD:=λ ws M Q=>∃ (S:Sh) (d q r:Addr) (u:List Int) (t:Nat) (v:W),ws=[.m d]/\OkS S/\Dr M S d q r u t v/\Q (.d (.str (nmS S (own S t)))) M
theorem kM:∀ ws M Q,bE ws M Q->ws.length=1:=by rintro ws M Q ⟨S,d,q,r,u,t,v,rfl,_⟩; rfl
theorem jH:∀ ws M Q,bE ws M Q->iK { nx:=λ _ M'=>Q (.d .none) M',rt:=Q } (aQ iQ ws) M:=by
 rintro ws M Q ⟨S,d,q,r,u,t,v,rfl,hO,H,k⟩
 have wp:=xG hO
 have hlt:t % wn S < wn S:=Nat.mod_lt _ (by omega)
 have hne:(a6 (rw0 S (wn S))).isEmpty=false:=by
  cases e:a6 (rw0 S (wn S)) with
  | nil=>have:=congrArg List.length e; simp [a6,rw0] at this; omega
  | cons _ _=>rfl
 refine ⟨_,rfl,d,_,_,rfl,H.hd,afo,_,.m H.hr,?_⟩
 rw [hne]
 refine kI ?_
 have el:xE M (.m r)=some (wn S):=by simp only [xE,H.hr]; simp [a6,rw0]
 have ix:ixW M (.m r) ((t:Int) % ((wn S:Nat):Int))=some (.d (.str (nmS S (own S t)))):=by
  rw [show ((t:Int) % ((wn S:Nat):Int))=((t % wn S:Nat):Int) from rfl,abK hO t]
  exact oh H.hr (qp (acY hlt))
 exact ⟨_,rfl,d,_,_,rfl,H.hd,afo,_,rfl,d,_,_,rfl,H.hd,agS,_,rfl,d,_,_,rfl,H.hd,afo,_,_,rfl,el,rfl,_,_,rfl,rfl,by omega,_,_,rfl,ix,rfl,k⟩
theorem jm:∀ {N:List Str} {u:List Int},N.length=u.length->(kvL N u).map (·.2)=gE u
 | [],[],_=>rfl
 | [],_ :: _,h=>by simp at h
 | _ :: _,[],h=>by simp at h
 | z :: N,n :: u,h=>by
  have ih:=jm (N:=N) (u:=u) (by simpa using h)
  show W.d (.int n) :: (kvL N u).map (·.2)=W.d (.int n) :: gE u
  rw [ih]
theorem sD:∀ {N:List Str} {u:List Int},N.length=u.length->(kvL N u).map (·.1)=N.map Sum.inr
 | [],[],_=>rfl
 | [],_ :: _,h=>by simp at h
 | _ :: _,[],h=>by simp at h
 | z :: N,n :: u,h=>by
  have ih:=sD (N:=N) (u:=u) (by simpa using h)
  show (.inr z:Key) :: (kvL N u).map (·.1)=(.inr z:Key) :: N.map Sum.inr
  rw [ih]
def aF:SpD:=λ ws M Q=>∃ (S:Sh) (d q r:Addr) (u:List Int) (t:Int) (v:W),ws=[.m d]/\Dr M S d q r u t v/\Q (.d (.bool (u.any λ n=>n != 0))) M
theorem fD:∀ ws M Q,aF ws M Q->ws.length=1:=by rintro ws M Q ⟨S,d,q,r,u,t,v,rfl,_⟩; rfl
theorem fA:∀ ws M Q,aF ws M Q->dB { nx:=λ _ M'=>Q (.d .none) M',rt:=Q } (aQ dH ws) M:=by
 rintro ws M Q ⟨S,d,q,r,u,t,v,rfl,H,k⟩
 exact ⟨_,rfl,d,_,_,rfl,H.hd,aak,q,_,u,rfl,H.hq,jm (by rw [H.lu]; simp [nmL]),k⟩
def qQ (n o:Nat):List Nat:=(List.range n).drop o++(List.range n).take o
theorem wC {n o k:Nat}(ho:o < n)(hk:k < n):(qQ n o)[k]? = some ((o+k) % n):=by
 unfold qQ
 by_cases h:o+k < n
 ·rw [List.getElem?_append_left (by simp; omega),List.getElem?_drop,List.getElem?_range (by omega),Nat.mod_eq_of_lt h]
 ·rw [List.getElem?_append_right (by simp; omega),List.length_drop,List.length_range,List.getElem?_take_of_lt (by omega),List.getElem?_range (by omega)]
  rw [Nat.mod_eq_sub_mod (by omega),Nat.mod_eq_of_lt (by omega)]
  congr 1
  omega
theorem wF {n o:Nat}(ho:o < n):(qQ n o).length=n:=by
 unfold qQ
 simp
 omega
theorem tH:∀ {l:List Nat} {p:Nat->Bool} {k j:Nat},l[k]? = some j->p j=true->(∀ k',k' < k->∀ j',l[k']? = some j'->p j'=false)->(l.filter p)[0]? = some j
 | [],_,_,_,h,_,_=>by simp at h
 | a :: l,p,0,j,h,hp,_=>by
  simp at h
  subst h
  rw [List.filter_cons_of_pos hp]
  rfl
 | a :: l,p,k+1,j,h,hp,hn=>by
  have ha:=hn 0 (by omega) a rfl
  rw [List.filter_cons_of_neg (by rw [ha]; decide)]
  exact tH (by simpa using h) hp λ k' hk j' hj=>hn (k'+1) (by omega) j' (by simpa using hj)
def nmD (S:Sh)(j:Nat):PyData:=.str (nmS S j)
def nms (S:Sh):List PyData:=(List.range S.length).map (nmD S)
theorem adS (S:Sh):nms S=(nmL S).map PyData.str:=by
 refine List.ext_getElem (by simp [nms,nmL]) λ i h1 h2=>?_
 have hi:i < S.length:=by simpa [nms] using h1
 have:=(mH (List.getElem?_eq_getElem hi)).2
 simp [nms,nmD,nmL,this]
theorem aaz {S:Sh}{j:Nat}(h:j < S.length):(nms S)[j]? = some (nmD S j):=by simp [nms,List.getElem?_map,List.getElem?_range h]
theorem jy {S:Sh}{j:Nat}(h:j < S.length):(nmL S)[j]? = some (nmS S j):=by
 have:=mH (List.getElem?_eq_getElem h)
 rw [this.1,this.2]
theorem aco {S:Sh}(hO:OkS S){i j:Nat}(hi:i < S.length)(hj:j < S.length)(h:nmS S i=nmS S j):i=j:=by
 have hi':i < (nmL S).length:=by simpa [nmL] using hi
 exact (List.getElem?_inj hi' (show (nmL S).Nodup from hO.nd)).mp (by rw [jy hi,jy hj,h])
theorem z8 {S:Sh}(hO:OkS S):okD 1 (.list (nms S))=true:=by
 simp only [okD]
 refine aae λ d hd=>?_
 obtain ⟨j,hj,rfl⟩:=List.mem_map.mp hd
 have hj':=List.mem_range.mp hj
 simp only [nmD,okD]
 exact oM (yp hO.e (jy hj'))
theorem adh {S:Sh}(hO:OkS S){j:Nat}(h:j < S.length):acP (nmD S j) (nms S)=true:=by
 have h1:okD 0 (nmD S j)=true:=by simp only [nmD,okD]; exact oM (yp hO.e (jy h))
 simp only [acP,fM (by decide) h1,fM (by decide) (z8 hO),Bool.and_self]
theorem wK (S:Sh){o:Nat}(ho:o < S.length):D.cutD (nms S) (some (o:Int)) none++D.cutD (nms S) none (some (o:Int))=(qQ S.length o).map (nmD S):=by
 rw [zE (by omega),mB (by simp [nms]; omega)]
 unfold nms qQ
 rw [<- List.map_drop,<- List.map_take,<- List.map_append]
 rfl
inductive km (ws:List W) (M:MH) (Q:QD):Prop
 | mk (S:Sh) (d q r:Addr) (u:List Int) (t:Nat) (v:W) (z0:ws=[.m d]) (z1:OkS S\/∀ i,cv u i=0) (z2:Dr M S d q r u t v) (z3:(∀ i,0<=cv u i)) (z4:(((∀ i,cv u i=0)/\Q (.d .none) M)\/∃ k j,k < S.length/\j=(own S t+k) % S.length/\0 < cv u j/\(∀ k',k' < k->cv u ((own S t+k') % S.length)=0)/\∀ M',M' d=some (.ins av (FD q r ((t+1:Nat):Int) v))->M' q=some (.dic (kvL (nmL S) (u.set j (cv u j - 1))))->(∀ b o,b≠d->b≠q->M b=some o->M' b=some o)->Q (.d (.str (nmS S j))) M')):km ws M Q
def cc:SpD:=km
theorem oK:∀ ws M Q,cc ws M Q->ws.length=1:=by rintro ws M Q ⟨S,d,q,r,u,t,v,rfl,_⟩; rfl
theorem adB {u:List Int}(h:∀ i,cv u i=0):(u.any λ n=>n != 0)=false:=by
 rw [List.any_eq_false]
 intro n hn
 obtain ⟨i,hi,rfl⟩:=List.getElem_of_mem hn
 have:=h i
 simp [cv,List.getD,List.getElem?_eq_getElem hi] at this
 simp [this]
theorem acy {u:List Int}{j:Nat}(h:0 < cv u j):(u.any λ n=>n != 0)=true:=by
 rw [List.any_eq_true]
 by_cases hj:j < u.length
 ·refine ⟨u[j],List.getElem_mem hj,?_⟩
  have:cv u j=u[j]:=by simp [cv,List.getD,List.getElem?_eq_getElem hj]
  simp
  omega
 ·have:cv u j=0:=by simp [cv,List.getD,List.getElem?_eq_none (by omega:u.length<=j)]
  omega
theorem nB:∀ ws M Q,cc ws M Q->lX aF bE { nx:=λ _ M'=>Q (.d .none) M',rt:=Q } (aQ lg ws) M:=by
 rintro ws M Q ⟨S,d,q,r,u,t,v,rfl,hO,H,h0,k⟩
 have sl:=s16
 refine ⟨_,rfl,d,_,rfl,H.hd,afE,S,d,q,r,u,t,v,rfl,H,_,rfl,?_⟩
 rcases k with ⟨hz,k⟩ | ⟨k,j,hk,hj,hp,hn,kk⟩
 ·rw [adB hz]
  exact jK k
 have hO:OkS S:=by
  rcases hO with hO | hO
  ·exact hO
  ·have:=hO j; omega
 have h4:=hO.len
 rw [acy hp]
 refine kI ?_
 have ho:=zW hO t
 have hjn:j < S.length:=by rw [hj]; exact Nat.mod_lt _ (by omega)
 refine ⟨_,rfl,d,_,_,rfl,H.hd,aak,q,_,nmL S,rfl,H.hq,sD (by rw [H.lu]; simp [nmL]),λ p hp'=>?_⟩
 have en:a6 (nmL S)=(nms S).map W.d:=by rw [adS,List.map_map]; rfl
 refine ⟨p,nms S,rfl,by rw [aa,en],?_⟩
 have x1:Ext M (jV (aK M p (.lst (a6 (nmL S)))) p):=sealed hp'
 generalize jV (aK M p (.lst (a6 (nmL S)))) p=M1 at x1
 have H1:=H.ext x1
 have ok:=z8 hO
 refine ⟨_,rfl,nms S,rfl,_,rfl,d,_,rfl,H1.hd,afT,S,d,q,r,u,t,v,rfl,hO,H1,nmD S (own S t),own S t,rfl,?_,⟨by simpa [nms] using ho,λ y hy=>?_,λ m y hm hy=>?_⟩,by omega,?_⟩
 ·exact adh hO ho
 ·rw [aaz ho] at hy
  cases hy
  simp [nmD]
 ·rw [aaz (by omega)] at hy
  cases hy
  simp only [nmD,zO]
  exact decide_eq_false λ e=>by have:=aco hO (by omega) ho e; omega
 refine ⟨_,rfl,_,rfl,_,rfl,_,rfl,rfl,_,rfl,_,rfl,_,rfl,_,rfl,rfl,_,_,.d,.d,?_,_,rfl,?_⟩
 ·have a1:(D.cutD (nms S) (some ((own S t:Nat):Int)) none++D.cutD (nms S) none (some ((own S t:Nat):Int))).length=S.length:=by rw [wK S ho,List.length_map,wF ho]
  rw [List.length_append] at a1
  omega
 rw [wK S ho]
 have get:∀ {i},i < S.length->fq (kvL (nmL S) u) (.inr (nmS S i))=some (.d (.int (cv u i))):=λ hi=>H.get hO (jy hi)
 refine ⟨λ i acc τ M'=>M'=M1/\acc=(((qQ S.length (own S t)).take i).filter λ j=>decide (0 < cv u j)).map (nmD S)/\∃ x,τ=[x,some (.m d)],⟨rfl,rfl,_,rfl⟩,?_,?_⟩
 ·rintro i w acc τ M' hw ⟨rfl,rfl,x,rfl⟩
  rw [List.map_map] at hw
  obtain ⟨j',hj',rfl⟩:=eh hw
  have hi:=(List.getElem?_eq_some_iff.mp hj').1
  rw [wF ho] at hi
  have hjn':j' < S.length:=by
   rw [wC ho hi] at hj'
   cases hj'
   exact Nat.mod_lt _ (by omega)
  have ht:(qQ S.length (own S t)).take (i+1)=(qQ S.length (own S t)).take i++[j']:=by rw [List.take_succ,hj']; rfl
  refine ⟨?_,_,rfl,d,_,_,rfl,H1.hd,aak,_,rfl,q,_,.inr (nmS S j'),_,rfl,.inl H1.hq,rfl,get hjn',_,_,rfl,rfl,_,rfl,?_⟩
  ·rw [List.length_map]
   have:=List.length_filter_le (λ j=>decide (0 < cv u j)) ((qQ S.length (own S t)).take i)
   rw [List.length_take] at this
   omega
  refine g9 (λ h=>?_) (λ h=>?_)
  ·refine ⟨_,rfl,_,rfl,rfl,?_,_,rfl⟩
   have e1:([j'].filter λ j=>decide (0 < cv u j))=[j']:=by simp only [List.filter,h]
   rw [ht,List.filter_append,List.map_append,e1]
   rfl
  ·refine ⟨rfl,?_,_,rfl⟩
   have e1:([j'].filter λ j=>decide (0 < cv u j))=[]:=by simp only [List.filter,h]
   rw [ht,List.filter_append,e1,List.append_nil]
 rintro acc τ M' ⟨rfl,rfl,x,rfl⟩
 have el:(qQ S.length (own S t)).take (((qQ S.length (own S t)).map (nmD S)).map W.d).length=qQ S.length (own S t):=List.take_of_length_le (by simp)
 rw [el]
 have hf:((qQ S.length (own S t)).filter λ j=>decide (0 < cv u j))[0]? = some j:=tH (k:=k) (by rw [hj]; exact wC ho hk) (decide_eq_true hp) λ k' hk' j' hj'=>by
  rw [wC ho (by omega)] at hj'
  cases hj'
  rw [hn k' hk']
  rfl
 have ix:∀ M2,ixW M2 (.d (.list (((qQ S.length (own S t)).filter λ j=>decide (0 < cv u j)).map (nmD S)))) 0=some (.d (nmD S j)):=λ M2=>adC (i:=0) rfl hf
 refine ⟨_,rfl,d,_,_,rfl,H1.hd,aak,_,rfl,0,_,rfl,ix _,rfl,q,_,.inr (nmS S j),cv u j,rfl,rfl,H1.hq,get hjn,?_,1,rfl,rfl,?_⟩
 ·have:=mr S u
  omega
 rw [j4 (N:=nmL S) hO.nd (by rw [H.lu]; simp [nmL]) (jy hjn)]
 have hd2:∀ o,aK M' q o d=some (.ins av (FD q r t v)):=λ o=>by rw [ah H.nq]; exact H1.hd
 refine ⟨_,rfl,d,_,_,rfl,hd2 _,agS,1,_,rfl,hd2 _,(by show 4 < 1000; decide),_,rfl,0,_,rfl,ix _,rfl,?_⟩
 refine kk _ aa ?_ λ b o n1 n2 e=>?_
 ·rw [ah H.nq.symm,aa]
 ·rw [ah n1,ah n2]
  exact x1 _ _ e
theorem gx (i j:Int):dO (.int i) (.int j)=true:=by simp [dO,kK,SeqAt.shaped,PyData.canLay0,PyData.depth,PyData.hasDict]
theorem uV {M:MH}{p b:Addr}{o:MO}(hb:Bag M p)(h:M b=some o)(hn:∀ ws,o ≠ .lst ws):b≠p:=by
 obtain ⟨_,_,_,_,e,_⟩:=hb
 intro z
 rw [z,e] at h
 exact hn _ (Option.some.inj h).symm
abbrev mK (S:Sh)(w h:Addr)(t l:Int):List (Key×W):=[(.inr "shares",.d (shD S)),(.inr "waits",.m w),(.inr "had",.m h),(.inr "slot",.d (.int t)),(.inr "last",.d (.int l))]
section
variable {S S':Sh}{w h w' h':Addr}{t t' l l':Int}
theorem aeB:fq (mK S w h t l) (.inr "shares")=some (.d (shD S)):=rfl
theorem tN:fq (mK S w h t l) (.inr "waits")=some (.m w):=rfl
end
theorem af1 {S S':Sh}{w h w':Addr}{t l:Int}:ph (mK S w h t l) [(.inr "shares",.d (shD S')),(.inr "waits",.m w')]=mK S' w' h t l:=rfl
structure Mo (M:MH)(S:Sh)(m w h:Addr)(u:List Int)(t:Nat)(l:Int):Prop where
 hm:M m=some (.dic (mK S w h (t:Int) l))
 hw:M w=some (.dic (kvL (nmL S) u))
 hh:M h=some (.lst (gE (st S t)))
 lu:u.length=S.length
 ne:m≠w
section
variable {M M':MH}{S:Sh}{m w h:Addr}{u:List Int}{t:Nat}{l:Int}
theorem Mo.keep (H:Mo M S m w h u t l)(f:∀ b o,b=m\/b=w\/b=h->M b=some o->M' b=some o):Mo M' S m w h u t l:=⟨f _ _ (.inl rfl) H.hm,f _ _ (.inr (.inl rfl)) H.hw,f _ _ (.inr (.inr rfl)) H.hh,H.lu,H.ne⟩
theorem Mo.get (H:Mo M S m w h u t l)(hO:OkE S){i:Nat}{z:Str}(hz:(nmL S)[i]? = some z):fq (kvL (nmL S) u) (.inr z)=some (.d (.int (cv u i))) :=
 gA hO.nd hz (rg (by rw [H.lu]; have:=(List.getElem?_eq_some_iff.mp hz).1; simpa [nmL] using this))
theorem Mo.mh (H:Mo M S m w h u t l):m≠h:=acT H.hm H.hh (by intro z; cases z)
theorem Mo.wh (H:Mo M S m w h u t l):w≠h:=acT H.hw H.hh (by intro z; cases z)
end
inductive jA (ws:List W) (M:MH) (Q:QD):Prop
 | mk (S:Sh) (m w h:Addr) (u:List Int) (t:Nat) (l:Int) (i:Nat) (z:Str) (n:Int) (z0:ws=[.m m,.d (.str z),.d (.int n)]) (z1:OkE S) (z2:Mo M S m w h u t l) (z3:(nmL S)[i]? = some z) (z4:cv u i<=40) (z5:0<=n) (z6:Q (.d (.int (lin n (cv u i)))) (aK M w (.dic (kvL (nmL S) (u.set i (cv u i+lin n (cv u i))))))):jA ws M Q
def cf:SpD:=jA
theorem o5:∀ ws M Q,cf ws M Q->ws.length=3:=by rintro ws M Q ⟨S,m,w,h,u,t,l,i,z,n,rfl,_⟩; rfl
theorem nR:∀ ws M Q,cf ws M Q->lR { nx:=λ _ M'=>Q (.d .none) M',rt:=Q } (aQ k8 ws) M:=by
 rintro ws M Q ⟨S,m,w,h,u,t,l,i,z,n,rfl,hO,H,hz,hu,hn,k⟩
 have sl:=s16
 have h4:=hO.len
 have get:=H.get hO hz
 have nl:(nmL S).length=u.length:=by rw [H.lu]; simp [nmL]
 refine ⟨_,rfl,_,rfl,m,_,.inr "waits",_,rfl,.inl H.hm,rfl,tN,_,rfl,w,_,.inr z,_,rfl,.inl H.hw,rfl,get,_,_,rfl,rfl,_,_,rfl,?_⟩
 have el:(if 40 - cv u i < n then 40 - cv u i else n)=lin n (cv u i):=by
  unfold lin
  split <;> (rw [if_neg (by omega)])
 rw [el]
 refine ⟨_,rfl,m,_,.inr "waits",_,rfl,.inl H.hm,rfl,tN,_,rfl,w,_,.inr z,_,rfl,.inl H.hw,rfl,get,_,rfl,.inl ⟨_,_,rfl,rfl,_,rfl,m,_,.inr "waits",_,rfl,.inl H.hm,rfl,tN,_,rfl,w,_,.inr z,rfl,H.hw,rfl,?_,?_⟩⟩
 ·have:=mr S u
  omega
 refine ⟨_,rfl,?_⟩
 show Q (.d (.int (lin n (cv u i)))) (aK M w (.dic (p9 (kvL (nmL S) u) (.inr z) (.d (.int (cv u i+lin n (cv u i)))))))
 rw [j4 (N:=nmL S) hO.nd nl hz]
 exact k
def zz (S:Sh):List Int:=List.replicate S.length 0
theorem xf:∀ S:Sh,(S.map λ _=>PyData.int 0).map W.d=gE (st S 0)
 | []=>rfl
 | _ :: S=>by
  have:=xf S
  show W.d (.int 0) :: _=W.d (.int 0) :: _
  rw [this]
  rfl
theorem adf (S:Sh)(i:Nat):cv (zz S) i=0:=xS S i
theorem Ext.none {M M':MH}{a:Addr}(x:Ext M M')(h:M' a=none):M a=none:=by
 cases e:M a with
 | none=>rfl
 | some o=>rw [x _ _ e] at h; cases h
inductive lF (ws:List W) (M:MH) (Q:QD):Prop
 | mk (S:Sh) (z0:ws=[.d (shD S)]) (z1:OkE S) (z2:∀ m w h M',M m=none->M w=none->M h=none->Mo M' S m w h (zz S) 0 0->Ext M M'->Q (.m m) M'):lF ws M Q
def cx:SpD:=lF
theorem rm:∀ ws M Q,cx ws M Q->ws.length=1:=by rintro ws M Q ⟨S,rfl,_⟩; rfl
theorem pM:∀ ws M Q,cx ws M Q->pP { nx:=λ _ M'=>Q (.d .none) M',rt:=Q } (aQ oG ws) M:=by
 rintro ws M Q ⟨S,rfl,hO,k⟩
 have sl:=s16
 have h4:=hO.len
 refine λ m hm=>?_
 refine ⟨_,rfl,_,_,rfl,.l,λ f hf=>⟨f,S.map cC,rfl,aa,?_⟩⟩
 have x2:Ext (aK M m (.dic [])) (jV (aK (aK M m (.dic [])) f (.lst ((S.map cC).map W.d))) f):=sealed hf
 generalize jV (aK (aK M m (.dic [])) f (.lst ((S.map cC).map W.d))) f=M2 at x2
 refine λ w hw=>⟨_,rfl,_,rfl,?_⟩
 rw [List.map_map]
 refine gw S (W.d ∘ cC) (λ _=>.int 0) (λ τ=>∃ x,τ=[x]) (by omega) ⟨_,rfl⟩ (λ r hr τ hτ R h=>?_) (λ τ h hh=>?_)
 ·obtain ⟨x,rfl⟩:=hτ
  exact ⟨_,rfl,h _ ⟨_,rfl⟩⟩
 rw [xf]
 have x0:Ext M (aK M m (.dic [])):=Ext.new hm
 have x3:Ext M2 (aK M2 w (.dic [])):=Ext.new hw
 have x4:Ext (aK M2 w (.dic [])) (aK (aK M2 w (.dic [])) h (.lst (gE (st S 0)))):=Ext.new hh
 have m4:=x4 _ _ (x3 _ _ (x2 m _ aa))
 have w4:=x4 w _ aa
 have h4':aK (aK M2 w (.dic [])) h (.lst (gE (st S 0))) h=some (.lst (gE (st S 0))):=aa
 have mw:m≠w:=aW (x2 m _ aa) hw
 have mh:m≠h:=aW (x3 _ _ (x2 m _ aa)) hh
 have wh:w≠h:=aW (M:=aK M2 w (.dic [])) aa hh
 have hwM:=(x0.trans x2).none hw
 have hhM:=((x0.trans x2).trans x3).none hh
 have x04:=((x0.trans x2).trans x3).trans x4
 generalize aK (aK M2 w (.dic [])) h (.lst (gE (st S 0)))=M4 at m4 w4 h4' x04
 refine ⟨m4,mK S w h 0 0,rfl,(by show 5<=15; decide),(show ([.inr "shares",.inr "waits",.inr "had",.inr "slot",.inr "last"]:List Key).Nodup from by decide +kernel),?_⟩
 refine ⟨_,rfl,_,rfl,?_⟩
 refine ⟨λ i τ M'=>M' w=some (.dic (kvL ((nmL S).take i) (List.replicate i 0)))/\(∀ b,b≠w->M' b=aK M4 m (.dic (mK S w h 0 0)) b)/\∃ x2 x3,τ=[some (.d (shD S)),some (.m m),x2,x3],⟨by rw [ah mw.symm]; exact w4,λ _ _=>rfl,_,_,rfl⟩,?_,?_⟩
 ·rintro i w' τ M' hw' ⟨e1,e2,x2,x3,rfl⟩
  rw [List.map_map] at hw'
  obtain ⟨r,hr,rfl⟩:=eh hw'
  have hi:=(List.getElem?_eq_some_iff.mp hr).1
  obtain ⟨hn,_⟩:=mH hr
  refine ⟨_,rfl,rfl,_,_,rfl,_,_,rfl,rfl,?_⟩
  refine ⟨_,rfl,m,_,.inr "waits",_,rfl,.inl (by rw [e2 m mw,aa]),rfl,tN,_,rfl,w,_,.inr r.1,rfl,e1,rfl,?_,?_,λ b hb=>?_,_,_,rfl⟩
  ·have:(kvL ((nmL S).take i) (List.replicate i 0)).length<=i:=by simp [kvL]; omega
   omega
  ·have ht:(nmL S).take (i+1)=(nmL S).take i++[r.1]:=by rw [List.take_succ,hn]; rfl
   rw [aa,tD (N:=(nmL S).take i) (by rw [List.length_take]; simp [nmL]; omega) (jz hO.nd hn),ht]
  ·rw [ah hb]; exact e2 b hb
 ·rintro τ M' ⟨e1,e2,x2,x3,rfl⟩
  have et:(nmL S).take ((S.map cC).map W.d).length=nmL S:=List.take_of_length_le (by simp [nmL])
  rw [et] at e1
  refine ⟨_,rfl,k m w h M' hm hwM hhM ⟨by rw [e2 m mw,aa]; rfl,?_,by rw [e2 h wh.symm,ah mh.symm]; exact h4',by simp [zz],mw⟩ λ b o e=>?_⟩
  ·rw [e1]; simp [zz]
  ·rw [e2 b (aW e hwM),ah (aW e hm)]
   exact x04 b o e
def bC:SpD:=λ ws M Q=>∃ (S:Sh) (m w h:Addr) (t l:Int),ws=[.m m]/\OkE S/\M m=some (.dic (mK S w h t l))/\∀ h' M',M h'=none->M' m=some (.dic (mK S w h' 0 l))->M' h'=some (.lst (gE (st S 0)))->Fr M M' m->Q (.d .none) M'
theorem rH:∀ ws M Q,bC ws M Q->ws.length=1:=by rintro ws M Q ⟨S,m,w,h,t,l,rfl,_⟩; rfl
theorem pZ:∀ ws M Q,bC ws M Q->pN { nx:=λ _ M'=>Q (.d .none) M',rt:=Q } (aQ p6 ws) M:=by
 rintro ws M Q ⟨S,m,w,h,t,l,rfl,hO,hm,k⟩
 have sl:=s16
 have h4:=hO.len
 refine ⟨_,rfl,m,_,.inr "shares",_,rfl,.inl hm,rfl,aeB,_,rfl,?_⟩
 rw [List.map_map]
 refine gw S (W.d ∘ cC) (λ _=>.int 0) (λ τ=>∃ x,τ=[x]) (by omega) ⟨_,rfl⟩ (λ r hr τ hτ R h=>?_) (λ τ h' hh=>?_)
 ·obtain ⟨x,rfl⟩:=hτ
  exact ⟨_,rfl,h _ ⟨_,rfl⟩⟩
 rw [xf]
 have mh:=aW hm hh
 refine ⟨_,rfl,m,_,.inr "had",rfl,cJ hm hh,rfl,(by show 5 < sizeLine; omega),_,rfl,m,_,.inr "slot",rfl,aa,rfl,(by show 5 < sizeLine; omega),?_⟩
 refine k h' _ hh aa ?_ λ b o n e=>?_
 ·rw [ah mh.symm,ah mh.symm,aa]
 ·rw [ah n,ah n,ah (aW e hh)]; exact e
theorem sO:∀ {u:List Int},(∀ i,cv u i=0)->u.sum=0
 | [],_=>rfl
 | a :: u,h=>by
  have h0:a=0:=h 0
  have:=sO (u:=u) λ i=>h (i+1)
  rw [List.sum_cons,h0,this]
  rfl
theorem aau:∀ {u:List Int},(∀ i,0<=cv u i)->0<=u.sum
 | [],_=>Int.le_refl _
 | a :: u,h=>by
  have h0:0<=a:=h 0
  have:=aau (u:=u) λ i=>h (i+1)
  rw [List.sum_cons]
  omega
theorem wD:∀ {u:List Int} {j:Nat},(∀ i,0<=cv u i)->0 < cv u j->0 < u.sum
 | [],j,_,h=>by simp [cv] at h
 | a :: u,0,h,hj=>by
  have h0:0 < a:=hj
  have:=aau (u:=u) λ i=>h (i+1)
  rw [List.sum_cons]
  omega
 | a :: u,j+1,h,hj=>by
  have h0:0<=a:=h 0
  have:=wD (u:=u) (j:=j) (λ i=>h (i+1)) hj
  rw [List.sum_cons]
  omega
inductive ik (ws:List W) (M:MH) (Q:QD):Prop
 | mk (S S':Sh) (m w h:Addr) (t l:Int) (kvs:List (Key×W)) (u:List Int) (z0:ws=[.m m,.d (shD S')]) (z1:OkS S') (z2:M m=some (.dic (mK S w h t l))) (z3:M w=some (.dic kvs)) (z4:u.length=S'.length) (z5:∀ i z,(nmL S')[i]? = some z->(fq kvs (.inr z)).getD (.d (.int 0))=.d (.int (cv u i)))
  (z6:∀ w' h' M',M w'=none->M h'=none->Mo M' S' m w' h' u 0 l->Fr M M' m->Q (.d .none) M'):ik ws M Q
def bG:SpD:=ik
theorem kS:∀ ws M Q,bG ws M Q->ws.length=2:=by rintro ws M Q ⟨S,S',m,w,h,t,l,kvs,u,rfl,_⟩; rfl
theorem jR:∀ ws M Q,bG ws M Q->iN bC { nx:=λ _ M'=>Q (.d .none) M',rt:=Q } (aQ iH ws) M:=by
 rintro ws M Q ⟨S,S',m,w,h,t,l,kvs,u,rfl,hO,hm,hw,lu,hu,k⟩
 have sl:=s16
 have h4:=hO.len
 have nl:(nmL S').length=S'.length:=by simp [nmL]
 have nd:(nmL S').Nodup:=hO.nd
 refine λ c hc=>⟨_,rfl,_,rfl,?_⟩
 have mc:=aW hm hc
 have wc:=aW hw hc
 refine ⟨λ i τ M'=>M' c=some (.dic (kvL ((nmL S').take i) (u.take i)))/\(∀ b,b≠c->M' b=M b)/\∃ x3 x4,τ=[some (.m m),some (.d (shD S')),some (.m c),x3,x4],⟨aa,λ b hb=>ah hb,_,_,rfl⟩,?_,?_⟩
 ·rintro i w' τ M' hw' ⟨e1,e2,x3,x4,rfl⟩
  rw [List.map_map] at hw'
  obtain ⟨r,hr,rfl⟩:=eh hw'
  have hi:=(List.getElem?_eq_some_iff.mp hr).1
  obtain ⟨hn,_⟩:=mH hr
  have hm':M' m=some (.dic (mK S w h t l)):=by rw [e2 m mc]; exact hm
  have hw2:M' w=some (.dic kvs):=by rw [e2 w wc]; exact hw
  refine ⟨_,rfl,rfl,_,_,rfl,_,_,rfl,rfl,?_⟩
  refine ⟨_,rfl,m,_,.inr "waits",_,rfl,.inl hm',rfl,tN,.k hw2,_,rfl,_,.k (k:=.inr r.1) hw2,_,rfl,_,rfl,c,_,.inr r.1,rfl,e1,rfl,?_,?_,λ b hb=>?_,_,_,rfl⟩
  ·have:(kvL ((nmL S').take i) (u.take i)).length<=i:=by simp [kvL]; omega
   omega
  ·have ht:(nmL S').take (i+1)=(nmL S').take i++[r.1]:=by rw [List.take_succ,hn]; rfl
   have hu':u.take (i+1)=u.take i++[cv u i]:=by rw [List.take_succ,rg (by omega)]; rfl
   rw [aa,hu i r.1 hn,xq (by rw [List.length_take,List.length_take]; omega) (jz nd hn),ht,hu']
  ·rw [ah hb]; exact e2 b hb
 rintro τ M1 ⟨e1,e2,x3,x4,rfl⟩
 have et:(nmL S').take ((S'.map cC).map W.d).length=nmL S':=List.take_of_length_le (by simp [nmL])
 have eu:u.take ((S'.map cC).map W.d).length=u:=List.take_of_length_le (by simp [lu])
 rw [et,eu] at e1
 have hm1:M1 m=some (.dic (mK S w h t l)):=by rw [e2 m mc]; exact hm
 refine ⟨_,rfl,m,_,rfl,hm1,λ e he=>?_⟩
 have me:=aW hm1 he
 have ce:=aW e1 he
 refine ⟨_,rfl,_,_,rfl,.l,λ f hf=>⟨f,S'.map cC,rfl,aa,_,rfl,?_⟩⟩
 have x2:Ext (aK M1 e (.dic [])) (jV (aK (aK M1 e (.dic [])) f (.lst ((S'.map cC).map W.d))) f):=sealed hf
 generalize jV (aK (aK M1 e (.dic [])) f (.lst ((S'.map cC).map W.d))) f=M2 at x2
 have x1:Ext M1 M2:=(Ext.new he).trans x2
 refine ⟨x2 e _ aa,[(.inr "shares",.d (shD S')),(.inr "waits",.m c)],rfl,(by show 2<=15; decide),(show ([.inr "shares",.inr "waits"]:List Key).Nodup from by decide +kernel),?_⟩
 refine ⟨e,mK S w h t l,_,rfl,by rw [ah me]; exact x1 _ _ hm1,aa,me,(by show 5+2<=sizeLine; omega),?_⟩
 rw [af1]
 refine ⟨_,rfl,S',m,c,h,t,l,rfl,hO.e,aa,λ h' M' hh' a1 a2 fr=>?_⟩
 have old:∀ b o,b≠m->M1 b=some o->M' b=some o:=λ b o n z=>fr b o n (by rw [ah n,ah (aW z he)]; exact x1 _ _ z)
 have hM:M h'=none:=by
  cases q:M h' with
  | none=>rfl
  | some o =>
   have n1:h'≠m:=λ z=>by rw [z,aa] at hh'; cases hh'
   have n2:h'≠c:=aW q hc
   have q1:M1 h'=some o:=by rw [e2 h' n2]; exact q
   rw [ah n1,ah (aW q1 he),x1 _ _ q1] at hh'
   cases hh'
 refine k c h' M' hc hM ⟨a1,old c _ mc.symm e1,a2,lu,mc⟩ λ b o n z=>old b o n ?_
 rw [e2 b (aW z hc)]; exact z
def Fp (M M':MH)(p:Addr):Prop:=∀ b o,b≠p->M b=some o->M' b=some o
theorem kC {a b:TSd}{E:Ed}{τ:DS}{M:MH}(P:MH->Prop)(hb:∀ M',P M'->b E τ M')(ha:(∀ M',P M'->b E τ M')->bh a b E τ M):bh a b E τ M:=ha hb
inductive lA (ws:List W) (M:MH) (Q:QD):Prop
 | mk (p:Addr) (S:Sh) (m w h:Addr) (t l:Int) (z0:ws=[.m p,.m m]) (z1:OkE S) (z2:Bag M p) (z3:M m=some (.dic (mK S w h t l))) (z4:∀ S' e M',OkS S'->e≠p->M e=none->M' e=some (.lst ((S'.map cC).map W.d))->Bag M' p->Fp M M' p->Q (.m e) M'):lA ws M Q
def cH:SpD:=lA
theorem qG:∀ ws M Q,cH ws M Q->ws.length=2:=by rintro ws M Q ⟨p,S,m,w,h,t,l,rfl,_⟩; rfl
inductive OtP (p f:Addr) (M:MH) (M':MH):Prop
 | mk (S:Sh) (z0:OkE S) (z1:M' f=some (.lst ((S.map cC).map W.d))) (z2:Bag M' p) (z3:Fp M M' p):OtP p f M M'
theorem OkE.rev {S:Sh}(h:OkE S):OkE S.reverse:=by
 refine ⟨by rw [List.length_reverse]; exact h.len,λ r hr=>h.row r (List.mem_reverse.mp hr),?_⟩
 rw [List.map_reverse]
 show List.Pairwise _ _
 rw [List.pairwise_reverse]
 exact h.nd.imp λ z=>z.symm
theorem ag7 {α:Type}(xs:List α):D.cutD xs none (some 4)=xs.take 4:=by
 by_cases h:4<=xs.length
 ·exact mB (i:=4) h
 ·unfold D.cutD
  have e:HT.sIx xs.length 0 none=0:=rfl
  have e2:HT.sIx xs.length xs.length (some 4)=xs.length:=by
   unfold HT.sIx
   simp
   omega
  rw [e,e2]
  show (xs.drop 0).take (xs.length - 0)=_
  rw [List.drop_zero,Nat.sub_zero,List.take_length,List.take_of_length_le (by omega)]
theorem oP:∀ ws M Q,cH ws M Q->oU ax aZ { nx:=λ _ M'=>Q (.d .none) M',rt:=Q } (aQ pJ ws) M:=by
 rintro ws M Q ⟨p,S,m,w,h,t,l,rfl,hO,hB,hm,k⟩
 have sl:=s16
 have h4:=hO.len
 have mp:m≠p:=uV hB hm λ _ z=>nomatch z
 refine ⟨_,rfl,m,_,.inr "shares",_,rfl,.inl hm,rfl,aeB,_,rfl,?_⟩
 rw [List.map_map]
 refine ⟨λ i acc τ M'=>(∃ S2:Sh,acc=S2.map cC/\(S2.map (·.1)).Sublist ((S.take i).map (·.1))/\∀ e∈S2,1<=e.2/\e.2<=9)/\Bag M' p/\(∀ b,b≠p->M' b=M b)/\∃ x y,τ=[x,y,some (.m p)],⟨⟨[],rfl,List.nil_sublist _,λ e he=>by cases he⟩,hB,λ _ _=>rfl,_,_,rfl⟩,?_,?_⟩
 ·rintro i w' acc τ M' hw ⟨⟨S2,rfl,hs,hb2⟩,b,fr,x,y,rfl⟩
  obtain ⟨r,hr,rfl⟩:=eh hw
  have hi:=(List.getElem?_eq_some_iff.mp hr).1
  have ht:S.take (i+1)=S.take i++[r]:=by rw [List.take_succ,hr]; rfl
  have hle:=hs.length_le
  rw [List.length_map,List.length_map,List.length_take] at hle
  refine ⟨by rw [List.length_map]; omega,_,rfl,rfl,_,_,rfl,_,_,rfl,rfl,_,rfl,p,3,rfl,b,by decide,by decide,λ a Ma a0 a1 ba ga=>⟨_,_,rfl,rfl,_,rfl,g9 (λ _=>?_) (λ _=>?_)⟩⟩
  ·refine ⟨_,rfl,_,rfl,p,9,rfl,ba,by decide,by decide,λ z Mz z0 z1 bz gz=>.inl ⟨_,_,rfl,rfl,_,rfl,few (by simp),_,rfl,⟨S2++[(r.1,1+z.toNat)],?_,?_,λ e he=>?_⟩,bz,λ b' n=>by rw [gz b' n,ga b' n,fr b' n],_,_,rfl⟩⟩
   ·rw [List.map_append]
    have ez:1+z=((1+z.toNat:Nat):Int):=by omega
    show List.map cC S2++[PyData.tuple [.str r.1,.int (1+z)]]=List.map cC S2++[cC (r.1,1+z.toNat)]
    rw [ez]
    rfl
   ·rw [ht,List.map_append,List.map_append]
    exact hs.append (List.Sublist.refl _)
   ·rcases List.mem_append.mp he with he | he
    ·exact hb2 e he
    ·rw [List.mem_singleton.mp he]
     exact ⟨by show 1<=1+z.toNat; omega,by show 1+z.toNat<=9; omega⟩
  ·exact ⟨⟨S2,rfl,by rw [ht,List.map_append]; exact hs.trans (List.sublist_append_left _ _),hb2⟩,ba,λ b' n=>by rw [ga b' n,fr b' n],_,_,rfl⟩
 rintro acc τ M1 ⟨⟨S2,rfl,hs,hb2⟩,b1,fr1,x,y,rfl⟩ f hf
 have el:S.take (S.map (W.d ∘ cC)).length=S:=List.take_of_length_le (by simp)
 rw [el] at hs
 have nd2:(S2.map (·.1)).Nodup:=hs.nodup hO.nd
 have l2:S2.length<=4:=by have:=hs.length_le; rw [List.length_map,List.length_map] at this; omega
 have wd2:∀ r∈S2,wd r.1=true:=λ r hr=>by
  have:r.1∈S.map (·.1):=hs.subset (List.mem_map.mpr ⟨r,hr,rfl⟩)
  obtain ⟨r',hr',e⟩:=List.mem_map.mp this
  rw [<- e]
  exact (hO.row r' hr').1
 have fp:f≠p:=λ e=>by obtain ⟨_,_,_,_,z,_⟩:=b1; rw [e,z] at hf; cases hf
 have hfM:M f=none:=by rw [<- fr1 f fp]; exact hf
 have x2:Ext M1 (aK M1 f (.lst ((S2.map cC).map W.d))):=Ext.new hf
 have m2:aK M1 f (.lst ((S2.map cC).map W.d)) f=some (.lst ((S2.map cC).map W.d)):=aa
 have b2:=Ext.bag x2 b1
 have F2:Fp M (aK M1 f (.lst ((S2.map cC).map W.d))) p:=λ b o n e=>x2 _ _ (by rw [fr1 b n]; exact e)
 generalize aK M1 f (.lst ((S2.map cC).map W.d))=M2 at m2 b2 F2
 clear x2 fr1 b1
 have okE2:OkE S2:=⟨l2,λ r hr=>⟨wd2 r hr,hb2 r hr⟩,nd2⟩
 have P0:OtP p f M M2:=⟨S2,okE2,m2,b2,F2⟩
 clear okE2 m2 b2 F2 wd2 l2 nd2 hs hb2 hf el
 clear S2
 dsimp only [gN]
 refine kC (λ M'=>OtP p f M M') (λ M2 P=>?_) (λ rest=>?_)
 case refine_2 =>
  obtain ⟨S2,ok,m2,b2,F2⟩:=P0
  refine ⟨_,rfl,p,2,rfl,b2,by decide,by decide,λ y M3 y0 y1 b3 g3=>⟨_,_,.d,.d,gx _ _,_,rfl,g9 (λ _=>?_) (λ _=>rest _ ⟨S2,ok,by rw [g3 f fp]; exact m2,b3,λ b o n e=>by rw [g3 b n]; exact F2 b o n e⟩)⟩⟩
  refine ⟨_,rfl,f,_,rfl,by rw [g3 f fp]; exact m2,rest _ ⟨S2.reverse,ok.rev,by rw [aa,<- List.map_reverse,<- List.map_reverse],?_,λ b o n e=>?_⟩⟩
  ·obtain ⟨a1,a2,a3,a4,e,z⟩:=b3
   exact ⟨a1,a2,a3,a4,by rw [ah (Ne.symm fp)]; exact e,z⟩
  ·by_cases q:b=f
   ·rw [q,hfM] at e; cases e
   ·rw [ah q,g3 b n]; exact F2 b o n e
 obtain ⟨S2,ok2,m2,b2,F2⟩:=P
 have l2:=ok2.len
 have nd2:=ok2.nd
 have wd2:∀ r∈S2,wd r.1=true:=λ r hr=>(ok2.row r hr).1
 have hb2:∀ r∈S2,1<=r.2/\r.2<=9:=λ r hr=>(ok2.row r hr).2
 refine ⟨f,_,m2,_,rfl,f,_,rfl,aa,?_⟩
 rw [List.map_map]
 refine gw S2 (W.d ∘ cC) (λ r=>.str r.1) (λ τ=>∃ x y,τ=[x,y]) (by omega) ⟨_,_,rfl⟩ (λ r hr τ hτ R h=>?_) (λ τ=>?_)
 ·obtain ⟨x,y,rfl⟩:=hτ
  exact ⟨_,rfl,rfl,_,_,rfl,_,_,rfl,rfl,_,rfl,_,rfl,h _ ⟨_,_,rfl⟩⟩
 refine ⟨aa,?_⟩
 rw [List.map_map] at m2
 rw [y8 m2]
 rw [<- List.map_map] at m2
 refine ⟨_,rfl,p,rfl,b2,λ T M3 hT b3 F3=>⟨_,rfl,?_⟩⟩
 have hT4:=hT.len
 have m3:=F3 _ _ fp m2
 have F3':Fp M M3 p:=λ b o n e=>F3 b o n (F2 b o n e)
 rw [List.map_map]
 refine ⟨λ i acc τ M'=>M'=M3/\acc=((T.take i).filter λ r=>decide (r.1 ∉ S2.map (·.1))).map cC/\∃ x,τ=[x,some (.d (.list (S2.map λ r=>.str r.1)))],⟨rfl,rfl,_,rfl⟩,?_,?_⟩
 ·rintro i w' acc τ M' hw ⟨rfl,rfl,x,rfl⟩
  obtain ⟨r,hr,rfl⟩:=eh hw
  have hi:=(List.getElem?_eq_some_iff.mp hr).1
  have ht:T.take (i+1)=T.take i++[r]:=by rw [List.take_succ,hr]; rfl
  have hle:=List.length_filter_le (λ r:Str×Nat=>decide (r.1 ∉ S2.map (·.1))) (T.take i)
  rw [List.length_take] at hle
  have hrw:=(hT.row r (List.mem_of_getElem? hr)).1
  refine ⟨by rw [List.length_map]; omega,_,rfl,0,_,rfl,rfl,rfl,_,rfl,r.1,S2.map (·.1),rfl,?_,_,rfl,?_⟩
  ·have e:a6 (S2.map (·.1))=(S2.map λ r=>PyData.str r.1).map W.d:=by unfold a6; rw [List.map_map,List.map_map]; rfl
   rw [e]
   exact .l
  rw [if_pos rfl]
  refine g9 (λ hb=>?_) (λ hb=>?_)
  ·have e1:([r].filter λ r=>decide (r.1 ∉ S2.map (·.1)))=[r]:=by
    have:r.1 ∉ S2.map (·.1):=by simpa using hb
    simp only [List.filter,decide_eq_true this]
   refine ⟨_,rfl,_,rfl,rfl,?_,_,rfl⟩
   rw [ht,List.filter_append,e1,List.map_append]
   rfl
  ·have e1:([r].filter λ r=>decide (r.1 ∉ S2.map (·.1)))=[]:=by
    have:¬ r.1 ∉ S2.map (·.1):=by simpa using hb
    simp only [List.filter,decide_eq_false this]
   refine ⟨rfl,?_,_,rfl⟩
   rw [ht,List.filter_append,e1,List.append_nil]
 rintro acc τ M4 ⟨rfl,rfl,x,rfl⟩ g hg
 have el3:T.take (T.map (W.d ∘ cC)).length=T:=List.take_of_length_le (by simp)
 rw [el3]
 generalize hTF:(T.filter λ r=>decide (r.1 ∉ S2.map (·.1)))=TF
 have TFm:∀ r∈TF,r∈T/\r.1 ∉ S2.map (·.1):=λ r hr=>by
  rw [<- hTF,List.mem_filter] at hr
  exact ⟨hr.1,of_decide_eq_true hr.2⟩
 have ndT:(TF.map (·.1)).Nodup:=by
  rw [<- hTF]
  exact ((List.filter_sublist (l:=T)).map _).nodup hT.nd
 have lT:TF.length<=4:=by rw [<- hTF]; exact Nat.le_trans (List.length_filter_le _ _) hT4
 have hne:S2++TF≠[]:=λ e=>by
  obtain ⟨e1,e2⟩:=List.append_eq_nil_iff.mp e
  rw [e2] at hTF
  cases hT':T with
  | nil=>exact hT.ne hT'
  | cons r rs =>
   have:r∈T.filter λ r=>decide (r.1 ∉ S2.map (·.1)):=List.mem_filter.mpr ⟨by rw [hT']; exact List.mem_cons_self ..,by rw [e1]; rfl⟩
   rw [hTF] at this
   cases this
 have fg:f≠g:=aW m3 hg
 have gp:g≠p:=λ e=>by obtain ⟨_,_,_,_,z,_⟩:=b3; rw [e,z] at hg; cases hg
 refine ⟨_,rfl,_,rfl,f,g,_,_,rfl,rfl,cJ m3 hg,aa,by simp; omega,λ c hc=>⟨_,rfl,c,_,rfl,aa,λ e he=>?_⟩⟩
 have x5:Ext M4 (aK (aK (aK M4 g (.lst ((TF.map cC).map W.d))) c (.lst ((S2.map cC).map W.d++(TF.map cC).map W.d))) e (.lst (D.cutD ((S2.map cC).map W.d++(TF.map cC).map W.d) none (some 4)))):=((Ext.new hg).trans (Ext.new hc)).trans (Ext.new he)
 have ecut:D.cutD ((S2.map cC).map W.d++(TF.map cC).map W.d) none (some 4)=(((S2++TF).take 4).map cC).map W.d:=by
  rw [<- List.map_append,<- List.map_append]
  rw [ag7,<- List.map_take,<- List.map_take]
 have okS:OkS ((S2++TF).take 4):=by
  refine ⟨λ e=>?_,by rw [List.length_take]; omega,λ r hr=>?_,?_⟩
  ·rw [List.take_eq_nil_iff] at e
   rcases e with e | e
   ·cases e
   ·exact hne e
  ·rcases List.mem_append.mp (List.mem_of_mem_take hr) with hr | hr
   ·exact ⟨wd2 r hr,hb2 r hr⟩
   ·exact hT.row r (TFm r hr).1
  ·have:((S2++TF).map (·.1)).Nodup:=by
    rw [List.map_append,List.nodup_append]
    refine ⟨nd2,ndT,λ a ha b hb e=>?_⟩
    obtain ⟨r,hr,rfl⟩:=List.mem_map.mp hb
    exact (TFm r hr).2 (e ▸ ha)
   rw [List.map_take]
   exact (List.take_sublist _ _).nodup this
 rw [ecut] at x5 ⊢
 have heM:M e=none:=by
  cases q:M e with
  | none=>rfl
  | some o =>
   have n:e≠p:=λ z=>by
    obtain ⟨_,_,_,_,zz,_⟩:=b3
    have:=Ext.none ((Ext.new hg).trans (Ext.new hc)) he
    rw [z,zz] at this
    cases this
   have:=Ext.none ((Ext.new hg).trans (Ext.new hc)) he
   rw [F3' e o n q] at this
   cases this
 have ep:e≠p:=λ z=>by
  obtain ⟨_,_,_,_,zz,_⟩:=b3
  have:=Ext.none ((Ext.new hg).trans (Ext.new hc)) he
  rw [z,zz] at this
  cases this
 exact k _ e _ okS ep heM aa (Ext.bag x5 b3) λ b o n z=>x5 _ _ (F3' b o n z)
theorem least {P:Nat->Prop}(dec:∀ k,P k\/¬ P k):∀ m,(∃ k,k < m/\P k)->∃ k,k < m/\P k/\∀ k',k' < k->¬ P k'
 | 0,⟨k,h,_⟩=>absurd h (Nat.not_lt_zero _)
 | m+1,⟨k,h,hp⟩=>by
  rcases dec m with q | q
  ·by_cases e:∃ k,k < m/\P k
   ·obtain ⟨k',h1,h2⟩:=least dec m e
    exact ⟨k',by omega,h2⟩
   ·exact ⟨m,by omega,q,λ k' hk' hp'=>e ⟨k',hk',hp'⟩⟩
  ·have hk:k < m:=by
    rcases Nat.lt_or_ge k m with z | z
    ·exact z
    ·have:k=m:=by omega
     subst this
     exact absurd hp q
   obtain ⟨k',h1,h2⟩:=least dec m ⟨k,hk,hp⟩
   exact ⟨k',by omega,h2⟩
theorem abT {u:List Int}{n o:Nat}(lu:u.length=n)(ho:o < n)(h0:∀ i,0<=cv u i)(hz:¬ ∀ i,cv u i=0):∃ k j,k < n/\j=(o+k) % n/\0 < cv u j/\∀ k',k' < k->cv u ((o+k') % n)=0:=by
 have hi:∃ i,i < n/\0 < cv u i:=by
  refine Classical.byContradiction λ c=>hz λ i=>?_
  by_cases hi:i < n
  ·have:=h0 i
   have:¬ 0 < cv u i:=λ z=>c ⟨i,hi,z⟩
   omega
  ·unfold cv
   rw [List.getD_eq_getElem?_getD,List.getElem?_eq_none (by omega)]
   rfl
 obtain ⟨i,hin,hp⟩:=hi
 have hk:(o+(i+n - o) % n) % n=i:=by
  rcases Nat.lt_or_ge i o with z | z
  ·rw [Nat.mod_eq_of_lt (show i+n - o < n by omega),show o+(i+n - o)=i+n by omega,Nat.add_mod_right,Nat.mod_eq_of_lt hin]
  ·rw [show i+n - o=(i - o)+n by omega,Nat.add_mod_right,Nat.mod_eq_of_lt (show i - o < n by omega),show o+(i - o)=i by omega,Nat.mod_eq_of_lt hin]
 obtain ⟨k,h1,h2,h3⟩:=least (P:=λ k=>0 < cv u ((o+k) % n)) (λ k=>Classical.em _) n ⟨(i+n - o) % n,Nat.mod_lt _ (by omega),by rw [hk]; exact hp⟩
 exact ⟨k,_,h1,rfl,h2,λ k' hk'=>by have:=h0 ((o+k') % n); have:=h3 k' hk'; omega⟩
inductive pI (ws:List W) (M:MH) (Q:QD):Prop
 | mk (S:Sh) (d q r:Addr) (u:List Int) (t:Int) (v:W) (way:Int) (z:Str) (n:Int) (z0:ws=[.m d,.d (.int way),.d (.str z),.d (.int n)]) (z1:OkE S) (z2:Dr M S d q r u t v) (z3:wd z=true) (zw:way=0\/way=1)
  (z4:way=0->∀ i,(nmL S)[i]? = some z->Q (.d (.tuple [.str "told",.int (lin n (cv u i))])) (aK M q (.dic (kvL (nmL S) (u.set i (cv u i+lin n (cv u i)))))))
  (z5:way=1->∀ i,(nmL S)[i]? = some z->Q (.d (.tuple [.str "told",.int (cv u i)])) M)
  (z6:z ∉ nmL S->∀ M',Ext M M'->Q (.d (.tuple [.str "unknown",.str z])) M'):pI ws M Q
def bQ:SpD:=pI
theorem uS:∀ ws M Q,bQ ws M Q->ws.length=4:=by rintro ws M Q ⟨S,d,q,r,u,t,v,way,z,n,rfl,_⟩; rfl
theorem qC:∀ ws M Q,bQ ws M Q->sV ck aM { nx:=λ _ M'=>Q (.d .none) M',rt:=Q } (aQ sJ ws) M:=by
 rintro ws M Q ⟨S,d,q,r,u,t,v,way,z,n,rfl,hO,H,hw,hway,k0,k1,kx⟩
 rcases hway with rfl | rfl
 ·refine ⟨_,rfl,_,_,.d,.d,gx _ _,_,rfl,zy (by rw [ji]; rfl) ?_⟩
  refine ⟨_,rfl,d,_,rfl,H.hd,agq,_,rfl,_,rfl,S,d,q,r,u,t,v,z,n,rfl,hO,H,hw,λ i hz=>⟨_,rfl,few (by simp),k0 rfl i hz⟩,λ hm a ha=>?_⟩
  exact ⟨_,_,true,aa,rfl,jK ⟨_,rfl,a,_,_,_,rfl,aa,rfl,_,rfl,jK ⟨_,rfl,a,_,_,_,rfl,aa,rfl,_,rfl,jK ⟨_,rfl,a,_,_,_,rfl,aa,rfl,_,rfl,jK ⟨_,rfl,a,_,_,_,rfl,aa,by simp,rfl,_,rfl,few (by simp),kx hm _ (Ext.new ha)⟩⟩⟩⟩⟩
 ·refine ⟨_,rfl,_,_,.d,.d,gx _ _,_,rfl,uk (by rw [ji]; rfl) ?_⟩
  refine ⟨_,rfl,d,_,rfl,H.hd,acV,_,rfl,S,d,q,r,u,t,v,z,rfl,hO,H,hw,λ i hz=>⟨_,rfl,few (by simp),k1 rfl i hz⟩,λ hm a ha=>?_⟩
  exact ⟨_,_,true,aa,rfl,jK ⟨_,rfl,a,_,_,_,rfl,aa,rfl,_,rfl,jK ⟨_,rfl,a,_,_,_,rfl,aa,rfl,_,rfl,jK ⟨_,rfl,a,_,_,_,rfl,aa,rfl,_,rfl,jK ⟨_,rfl,a,_,_,_,rfl,aa,by simp,rfl,_,rfl,few (by simp),kx hm _ (Ext.new ha)⟩⟩⟩⟩⟩
theorem bq {l:List Addr}(h:l.Nodup)(i j:Nat){a b:Addr}(ha:l[i]? = some a)(hb:l[j]? = some b)(n:i≠j):a≠b:=λ e=>by
 subst e
 obtain ⟨hi,e1⟩:=List.getElem?_eq_some_iff.mp ha
 obtain ⟨hj,e2⟩:=List.getElem?_eq_some_iff.mp hb
 rcases Nat.lt_or_ge i j with q | q
 ·exact List.pairwise_iff_getElem.mp h i j hi hj q (e1.trans e2.symm)
 ·exact List.pairwise_iff_getElem.mp h j i hj hi (by omega) (e2.trans e1.symm)
structure One (M:MH)(S:Sh)(d q r m w h:Addr)(u:List Int)(t:Nat):Prop where
 e:OkE S
 D:Dr M S d q r u t (.d .none)
 H:Mo M S m w h u 0 0
 bd:∀ j,0<=cv u j/\cv u j<=40
theorem One.keep {M M':MH}{S:Sh}{d q r m w h:Addr}{u:List Int}{t:Nat}(O:One M S d q r m w h u t)(f:∀ b∈[d,q,r,m,w,h],∀ o,M b=some o->M' b=some o):One M' S d q r m w h u t :=
 ⟨O.e,⟨f _ (by simp) _ O.D.hd,f _ (by simp) _ O.D.hq,f _ (by simp) _ O.D.hr,O.D.lu⟩,⟨f _ (by simp) _ O.H.hm,f _ (by simp) _ O.H.hw,f _ (by simp) _ O.H.hh,O.H.lu,O.H.ne⟩,O.bd⟩
theorem One.ext {M M':MH}{S:Sh}{d q r m w h:Addr}{u:List Int}{t:Nat}(O:One M S d q r m w h u t)(x:Ext M M'):One M' S d q r m w h u t:=O.keep λ b _ o e=>x b o e
theorem One.live {M:MH}{S:Sh}{d q r m w h:Addr}{u:List Int}{t:Nat}(O:One M S d q r m w h u t):∀ b∈[d,q,r,m,w,h],∃ o,M b=some o:=λ b hb=>by
 simp only [List.mem_cons,List.not_mem_nil,or_false] at hb
 rcases hb with rfl | rfl | rfl | rfl | rfl | rfl
 ·exact ⟨_,O.D.hd⟩
 ·exact ⟨_,O.D.hq⟩
 ·exact ⟨_,O.D.hr⟩
 ·exact ⟨_,O.H.hm⟩
 ·exact ⟨_,O.H.hw⟩
 ·exact ⟨_,O.H.hh⟩
inductive oj (ws:List W) (M:MH) (Q:QD):Prop
 | mk (S:Sh) (d q r m w h:Addr) (u:List Int) (t:Nat) (z0:ws=[.m d,.m m]) (z1:One M S d q r m w h u t) (z2:[d,q,r,m,w,h].Nodup) (z3:∀ u' t' M',One M' S d q r m w h u' t'->(∀ b o,b≠d->b≠q->b≠w->M b=some o->M' b=some o)->Q (.d (.bool true)) M'):oj ws M Q
def cX:SpD:=oj
theorem uC:∀ ws M Q,cX ws M Q->ws.length=2:=by rintro ws M Q ⟨S,d,q,r,m,w,h,u,t,rfl,_⟩; rfl
theorem rC:∀ ws M Q,cX ws M Q->tJ cc { nx:=λ _ M'=>Q (.d .none) M',rt:=Q } (aQ tS ws) M:=by
 rintro ws M Q ⟨S,d,q,r,m,w,h,u,t,rfl,O,nd,k⟩
 have sl:=s16
 have h4:=O.e.len
 have h0:∀ i,0<=cv u i:=λ i=>(O.bd i).1
 by_cases hz:∀ i,cv u i=0
 ·refine ⟨_,rfl,d,_,rfl,O.D.hd,ac5,S,d,q,r,u,t,_,rfl,.inr hz,O.D,h0,.inl ⟨hz,?_⟩⟩
  refine ⟨_,rfl,m,_,.inr "waits",_,rfl,.inl O.H.hm,rfl,tN,w,_,u,rfl,O.H.hw,jm (by rw [O.H.lu]; simp [nmL]),_,_,.d,.d,gx _ _,_,rfl,zy (by rw [ji]; exact decide_eq_true (sO hz)) ⟨_,rfl,rfl,k u t M O λ b o _ _ _ e=>e⟩⟩
 ·have hne:S≠[]:=λ e=>hz λ i=>by
   have:u=[]:=by have:=O.D.lu; rw [e] at this; exact List.length_eq_zero_iff.mp this
   rw [this]; rfl
  have hO:=O.e.s hne
  obtain ⟨kk,j,hk,hj,hp,hn⟩:=abT O.D.lu (zW hO t) h0 hz
  refine ⟨_,rfl,d,_,rfl,O.D.hd,ac5,S,d,q,r,u,t,_,rfl,.inl hO,O.D,h0,.inr ⟨kk,j,hk,hj,hp,hn,λ M1 e1 e2 fr=>?_⟩⟩
  have hjn:j < S.length:=by rw [hj]; exact Nat.mod_lt _ (by omega)
  have hnm:(nmL S)[j]? = some (nmS S j):=jy hjn
  have md:m≠d:=bq nd 3 0 rfl rfl (by decide)
  have mq:m≠q:=bq nd 3 1 rfl rfl (by decide)
  have wd':w≠d:=bq nd 4 0 rfl rfl (by decide)
  have wq:w≠q:=bq nd 4 1 rfl rfl (by decide)
  have hm1:=fr _ _ md mq O.H.hm
  have hw1:=fr _ _ wd' wq O.H.hw
  have get:=O.H.get O.e hnm
  refine ⟨_,rfl,m,_,.inr "waits",_,rfl,.inl hm1,rfl,tN,w,_,u,rfl,hw1,jm (by rw [O.H.lu]; simp [nmL]),_,_,.d,.d,gx _ _,_,rfl,uk (by rw [ji]; exact decide_eq_false (by have:=wD h0 hp; omega)) ?_⟩
  refine ⟨_,rfl,m,_,.inr "waits",_,rfl,.inl hm1,rfl,tN,.k hw1,_,rfl,_,.k (k:=.inr (nmS S j)) hw1,?_⟩
  rw [get]
  refine ⟨_,_,rfl,rfl,_,rfl,uk (decide_eq_false (by show ¬ cv u j < 1; omega)) ?_⟩
  refine ⟨_,rfl,m,_,.inr "waits",_,rfl,.inl hm1,rfl,tN,_,rfl,w,_,.inr (nmS S j),_,rfl,.inl hw1,rfl,get,_,_,rfl,rfl,_,rfl,m,_,.inr "waits",_,rfl,.inl hm1,rfl,tN,_,rfl,w,_,.inr (nmS S j),rfl,hw1,rfl,?_,?_⟩
  ·have:=mr S u
   omega
  rw [j4 (N:=nmL S) O.e.nd (by rw [O.D.lu]; simp [nmL]) hnm]
  have nwd:∀ b,b≠w->∀ o,M1 b=some o->aK M1 w (.dic (kvL (nmL S) (u.set j (cv u j - 1)))) b=some o:=λ b n o e=>by rw [ah n]; exact e
  have rd:r≠d:=bq nd 2 0 rfl rfl (by decide)
  have rq:r≠q:=bq nd 2 1 rfl rfl (by decide)
  have rw':r≠w:=bq nd 2 4 rfl rfl (by decide)
  have hd':h≠d:=bq nd 5 0 rfl rfl (by decide)
  have hq':h≠q:=bq nd 5 1 rfl rfl (by decide)
  have hw':h≠w:=bq nd 5 4 rfl rfl (by decide)
  have lu':(u.set j (cv u j - 1)).length=S.length:=by rw [List.length_set]; exact O.D.lu
  refine k (u.set j (cv u j - 1)) (t+1) _ ⟨O.e,⟨nwd _ (Ne.symm wd') _ e1,nwd _ (Ne.symm wq) _ e2,nwd _ rw' _ (fr _ _ rd rq O.D.hr),lu'⟩,⟨nwd _ O.H.ne _ hm1,aa,nwd _ hw' _ (fr _ _ hd' hq' O.H.hh),lu',O.H.ne⟩,λ i=>?_⟩ λ b o n1 n2 n3 e=>nwd _ n3 _ (fr _ _ n1 n2 e)
  rw [lB (by rw [O.D.lu]; exact hjn)]
  have:=O.bd i
  have:=O.bd j
  split <;> omega
theorem ahw {S S2:Sh}{u:List Int}(hO:OkE S)(lu:u.length=S.length)(bd:∀ j,0<=cv u j/\cv u j<=40):∃ u2:List Int,u2.length=S2.length/\(∀ i z,(nmL S2)[i]? = some z->(fq (kvL (nmL S) u) (.inr z)).getD (.d (.int 0))=.d (.int (cv u2 i)))/\∀ j,0<=cv u2 j/\cv u2 j<=40:=by
 have one:∀ z:Str,∃ n:Int,(fq (kvL (nmL S) u) (.inr z)).getD (.d (.int 0))=.d (.int n)/\0<=n/\n<=40:=λ z=>by
  by_cases h:z∈nmL S
  ·obtain ⟨i,hi,e⟩:=List.getElem_of_mem h
   have hz:(nmL S)[i]? = some z:=by rw [List.getElem?_eq_getElem hi,e]
   rw [gA (N:=nmL S) hO.nd hz (rg (by rw [lu]; simpa [nmL] using hi))]
   exact ⟨cv u i,rfl,bd i⟩
  ·rw [tm h]
   exact ⟨0,rfl,by decide,by decide⟩
 have all:∀ N:List Str,∃ u2:List Int,u2.length=N.length/\(∀ i z,N[i]? = some z->(fq (kvL (nmL S) u) (.inr z)).getD (.d (.int 0))=.d (.int (cv u2 i)))/\∀ j,0<=cv u2 j/\cv u2 j<=40:=λ N=>by
  induction N with
  | nil=>exact ⟨[],rfl,(λ i z h=>by simp at h),λ j=>by simp [cv]⟩
  | cons a N ih =>
   obtain ⟨u2,h1,h2,h3⟩:=ih
   obtain ⟨n,e,b1,b2⟩:=one a
   refine ⟨n :: u2,by simp [h1],λ i z h=>?_,λ j=>?_⟩
   ·cases i with
    | zero=>simp at h; subst h; exact e
    | succ i=>exact h2 i z (by simpa using h)
   ·cases j with
    | zero=>exact ⟨b1,b2⟩
    | succ j=>exact h3 j
 obtain ⟨u2,h1,h2,h3⟩:=all (nmL S2)
 exact ⟨u2,by rw [h1]; simp [nmL],h2,h3⟩
theorem aaM {n c:Int}(h0:0<=c)(h1:c<=40)(hn:0<=n):0<=c+lin n c/\c+lin n c<=40:=by
 unfold lin
 split <;> split <;> omega
theorem we {z:Str}{n:Int}(hz:yw z=true)(hn:n.natAbs<=1000):okD 1 (.tuple [.str z,.int n])=true:=by
 have big:(2:Nat) ^ 100 > 10000000:=by decide
 simp only [okD,okA,Bool.and_true,Bool.and_eq_true,decide_eq_true_eq]
 exact ⟨hz,by omega⟩
theorem zZ {y z:Str}(hy:yw y=true)(hz:yw z=true):okD 1 (.tuple [.str y,.str z])=true:=by
 simp only [okD,okA,Bool.and_true,Bool.and_eq_true]
 exact ⟨hy,hz⟩
theorem mG {k:Nat}{a b:List PyData}(hk:k<=50)(h:okD k (.tuple a)=true)(h':okD k (.tuple b)=true):dO (.tuple a) (.tuple b)=true:=by
 show (kK _ && kK _)=true
 rw [fM hk h,fM hk h']; rfl
theorem aac:yw "told" = true:=by decide +kernel
theorem ads:yw "unknown" = true:=by decide +kernel
theorem adG {n c:Int}(h0:0<=c)(h1:c<=40)(hn:0<=n):(lin n c).natAbs<=1000:=by
 have:=aaM h0 h1 hn
 have:0<=lin n c:=by unfold lin; split <;> omega
 omega
theorem aea {S:Sh}(h:OkE S):okD 2 (shD S)=true:=by
 have big:(2:Nat) ^ 100 > 10000000:=by decide
 have:∀ l:Sh,(∀ r∈l,wd r.1=true/\1<=r.2/\r.2<=9)->okA 1 (l.map cC)=true:=by
  intro l
  induction l with
  | nil=>intro _; rfl
  | cons r l ih =>
   intro hl
   have hr:=hl r (by simp)
   simp only [List.map_cons,cC,okA,okD,Bool.and_true,Bool.and_eq_true,decide_eq_true_eq]
   exact ⟨⟨oM hr.1,by omega⟩,ih λ x hx=>hl x (by simp [hx])⟩
 simp only [shD,okD]
 exact this S h.row
structure Ds (M:MH)(p nn:Addr)(S:Sh)(d q r m w h:Addr)(u:List Int)(t:Nat)(N:List Str):Prop where
 O:One M S d q r m w h u t
 B:Bag M p
 C:M af=some cdR
 n:M nn=some (.lst (a6 N))
theorem Ds.fp {M M':MH}{p nn:Addr}{S:Sh}{d q r m w h:Addr}{u:List Int}{t:Nat}{N:List Str}(D:Ds M p nn S d q r m w h u t N)(nd:[p,nn,af,d,q,r,m,w,h].Nodup)(b:Bag M' p)(f:Fp M M' p):Ds M' p nn S d q r m w h u t N:=by
 have np:∀ i x,[p,nn,af,d,q,r,m,w,h][i]? = some x->i≠0->x≠p:=λ i x e n=>bq nd i 0 e rfl n
 refine ⟨D.O.keep λ x hx o e=>f x o ?_ e,b,f _ _ (np 2 _ rfl (by decide)) D.C,f _ _ (np 1 _ rfl (by decide)) D.n⟩
 simp only [List.mem_cons,List.not_mem_nil,or_false] at hx
 rcases hx with rfl | rfl | rfl | rfl | rfl | rfl
 ·exact np 3 _ rfl (by decide)
 ·exact np 4 _ rfl (by decide)
 ·exact np 5 _ rfl (by decide)
 ·exact np 6 _ rfl (by decide)
 ·exact np 7 _ rfl (by decide)
 ·exact np 8 _ rfl (by decide)
inductive Done (M:MH) (p nn d q r m w h:Addr) (n:Nat) (M':MH):Prop
 | mk (S:Sh) (q' r' w' h':Addr) (u:List Int) (t:Nat) (N:List Str) (D:Ds M' p nn S d q' r' m w' h' u t N) (hw:∀ z∈N,wd z=true) (hn:N≠[]) (hl:N.length<=n+4) (nd:[d,q',r',m,w',h'].Nodup) (fr':∀ a∈[d,q',r',m,w',h'],a∈[d,q,r,m,w,h]\/M a=none)
   (fr:∀ b o,b≠p->b≠nn->b≠d->b≠q->b≠m->b≠w->M b=some o->M' b=some o):Done M p nn d q r m w h n M'
inductive p7 (ws:List W) (M:MH) (Q:QD):Prop
 | mk (p nn:Addr) (S:Sh) (d q r m w h:Addr) (u:List Int) (t:Nat) (N:List Str) (z0:ws=[.m p,.m d,.m m,.m nn]) (z1:Ds M p nn S d q r m w h u t N) (z2:∀ z∈N,wd z=true) (z3:N≠[]) (z4:N.length<=900) (z5:[p,nn,af,d,q,r,m,w,h].Nodup) (z6:∀ M',Done M p nn d q r m w h N.length M'->Q (.d (.bool true)) M'):p7 ws M Q
def cT:SpD:=p7
theorem uU:∀ ws M Q,cT ws M Q->ws.length=4:=by rintro ws M Q ⟨p,nn,S,d,q,r,m,w,h,u,t,N,rfl,_⟩; rfl
theorem afS {M:MH}{nn:Addr}{N:List Str}{g:Int}(e:M nn=some (.lst (a6 N)))(g0:0<=g)(g1:g < N.length):∃ z,ixW M (.m nn) g=some (.d (.str z))/\z∈N:=by
 obtain ⟨z,hz⟩:∃ z,N[g.toNat]? = some z:=⟨_,List.getElem?_eq_getElem (by omega)⟩
 refine ⟨z,oh e ?_,List.mem_of_getElem? hz⟩
 rw [show g=((g.toNat:Nat):Int) by omega]
 exact qp (by unfold a6; rw [List.getElem?_map,hz]; rfl)
theorem eC {a:Addr}:∀ {l:List Addr} {i:Nat},l.Nodup->a ∉ l->(l.set i a).Nodup
 | [],_,_,_=>by simp
 | x :: l,0,h,n=>by
  rw [List.set_cons_zero,List.nodup_cons]
  exact ⟨λ z=>n (List.mem_cons_of_mem _ z),(List.nodup_cons.mp h).2⟩
 | x :: l,i+1,h,n=>by
  rw [List.set_cons_succ,List.nodup_cons]
  refine ⟨λ z=>?_,eC (List.nodup_cons.mp h).2 λ z=>n (List.mem_cons_of_mem _ z)⟩
  rcases List.mem_or_eq_of_mem_set z with z | z
  ·exact (List.nodup_cons.mp h).1 z
  ·exact n (by rw [z]; exact List.mem_cons_self ..)
theorem qE:∀ ws M Q,cT ws M Q->sW ax bQ cf bC aO cH bG aA cX { nx:=λ _ M'=>Q (.d .none) M',rt:=Q } (aQ sd ws) M:=by
 rintro ws M Q ⟨p,nn,S,d,q,r,m,w,h,u,t,N,rfl,J,hN,hne,hl,nd,k⟩
 have sl:=s16
 have hN0:0 < N.length:=by cases N with
  | nil=>exact absurd rfl hne
  | cons _ _=>simp
 refine ⟨_,rfl,p,9,rfl,J.B,by decide,by decide,λ way M1 w0 w1 b1 f1=>?_⟩
 have F1:Fp M M1 p:=λ b o n e=>by rw [f1 b n]; exact e
 have J1:=J.fp nd b1 F1
 have ln:xE M1 (.m nn)=some N.length:=by simp only [xE,J1.n]; simp [a6]
 refine ⟨_,rfl,_,rfl,_,rfl,_,_,rfl,ln,rfl,p,N.length,rfl,b1,by omega,by omega,λ g M2 g0 g1 b2 f2=>?_⟩
 have F2:Fp M M2 p:=λ b o n e=>by rw [f2 b n]; exact F1 b o n e
 have J2:=J.fp nd b2 F2
 obtain ⟨z,hz,hzN⟩:=afS J2.n g0 g1
 have zw:=hN z hzN
 refine ⟨_,_,rfl,hz,rfl,?_⟩
 refine ⟨_,rfl,p,6,rfl,b2,by decide,by decide,λ a M3 a0 a1 b3 f3=>.inl ⟨_,_,rfl,rfl,_,rfl,p,40,rfl,b3,by decide,by decide,λ b M4 c0 c1 b4 f4=>.inl ⟨_,_,rfl,rfl,_,rfl,few (by simp),_,rfl,p,3,rfl,b4,by decide,by decide,λ c M5 d0 d1 b5 f5=>?_⟩⟩⟩
 have F5:Fp M M5 p:=λ b o n e=>by rw [f5 b n,f4 b n,f3 b n]; exact F2 b o n e
 have J5:=J.fp nd b5 F5
 obtain ⟨n,hix,hnm⟩:=jL (M:=M5) (ns:=[1+a,1+b,40]) d0 (by show c < 3; exact d1)
 have n0:0<=n:=by
  simp only [List.mem_cons,List.not_mem_nil,or_false] at hnm
  rcases hnm with rfl | rfl | rfl <;> omega
 refine ⟨_,_,rfl,hix,rfl,?_⟩
 clear hix hnm f3 f4 f5 b3 b4 F1 F2 J1 J2 f1 f2 b1 b2 hz ln
 have back:∀ {M6:MH} {x:Addr},Fp M M6 p->Bag M6 p->M6 x=none->M x=none:=λ {M6 x} f b e=>by
  cases z:M x with
  | none=>rfl
  | some o =>
   have n:x≠p:=λ e'=>by obtain ⟨_,_,_,_,e2,_⟩:=b; rw [e',e2] at e; cases e
   rw [f x o n z] at e; cases e
 have np:∀ i x,[p,nn,af,d,q,r,m,w,h][i]? = some x->i≠0->p≠x:=λ i x e n=>bq nd 0 i rfl e (Ne.symm n)
 have nd6:[d,q,r,m,w,h].Nodup:=(List.drop_sublist 3 [p,nn,af,d,q,r,m,w,h]).nodup nd
 have qm:q≠m:=bq nd 4 6 rfl rfl (by decide)
 have qw:q≠w:=bq nd 4 7 rfl rfl (by decide)
 have dq:d≠q:=bq nd 3 4 rfl rfl (by decide)
 have dw:d≠w:=bq nd 3 7 rfl rfl (by decide)
 have dm:d≠m:=bq nd 3 6 rfl rfl (by decide)
 have mw:m≠w:=bq nd 6 7 rfl rfl (by decide)
 have self:∀ x∈[d,q,r,m,w,h],x∈[d,q,r,m,w,h]\/M x=none:=λ x hx=>.inl hx
 dsimp only [gN]
 refine ⟨_,rfl,_,_,rfl,rfl,_,rfl,g9 (λ _=>?_) (λ _=>?_)⟩
 ·refine ⟨_,rfl,_,rfl,_,rfl,S,d,q,r,u,t,_,0,z,n,rfl,J5.O.e,J5.O.D,zw,.inl rfl,λ _ i hz=>?_,(λ e=>by cases e),λ hm M6 x6=>?_⟩
  ·have hi:i < S.length:=by have:=(List.getElem?_eq_some_iff.mp hz).1; simpa [nmL] using this
   have bdi:=J5.O.bd i
   have fr6:∀ b o,b≠q->M5 b=some o->aK M5 q (.dic (kvL (nmL S) (u.set i (cv u i+lin n (cv u i))))) b=some o:=λ b o n e=>by rw [ah n]; exact e
   have q6:aK M5 q (.dic (kvL (nmL S) (u.set i (cv u i+lin n (cv u i))))) q=some (.dic (kvL (nmL S) (u.set i (cv u i+lin n (cv u i))))):=aa
   generalize aK M5 q (.dic (kvL (nmL S) (u.set i (cv u i+lin n (cv u i)))))=M6 at fr6 q6
   have H6:Mo M6 S m w h u 0 0:=⟨fr6 _ _ (Ne.symm qm) J5.O.H.hm,fr6 _ _ (Ne.symm qw) J5.O.H.hw,fr6 _ _ (bq nd 8 4 rfl rfl (by decide)) J5.O.H.hh,J5.O.H.lu,J5.O.H.ne⟩
   have get:=H6.get J5.O.e hz
   refine ⟨_,rfl,_,rfl,m,_,.inr "waits",_,rfl,.inl H6.hm,rfl,tN,_,.k (k:=.inr z) H6.hw,_,rfl,?_⟩
   rw [get]
   have ok:=we aac (adG bdi.1 bdi.2 n0)
   refine kI ⟨_,rfl,_,rfl,_,rfl,_,rfl,S,m,w,h,u,0,0,i,z,n,rfl,J5.O.e,H6,hz,bdi.2,n0,_,rfl,few (by simp),_,_,.d,.d,mG (by decide) ok ok,_,rfl,?_⟩
   rw [l8 ok]
   refine jK ⟨_,rfl,1,_,rfl,rfl,rfl,_,_,_,rfl,.d,.bool,_,rfl,?_⟩
   have bd':=aaM bdi.1 bdi.2 n0
   have frw:∀ b o,b≠w->M6 b=some o->aK M6 w (.dic (kvL (nmL S) (u.set i (cv u i+lin n (cv u i))))) b=some o:=λ b o n e=>by rw [ah n]; exact e
   have lu':(u.set i (cv u i+lin n (cv u i))).length=S.length:=by rw [List.length_set]; exact J5.O.D.lu
   refine k _ ⟨S,q,r,w,h,u.set i (cv u i+lin n (cv u i)),t,N,⟨⟨J5.O.e,⟨frw _ _ dw (fr6 _ _ dq J5.O.D.hd),frw _ _ qw q6,frw _ _ (bq nd 5 7 rfl rfl (by decide)) (fr6 _ _ (bq nd 5 4 rfl rfl (by decide)) J5.O.D.hr),lu'⟩,⟨frw _ _ mw H6.hm,aa,frw _ _ (bq nd 8 7 rfl rfl (by decide)) H6.hh,lu',J5.O.H.ne⟩,λ j=>?_⟩,?_,frw _ _ (bq nd 2 7 rfl rfl (by decide)) (fr6 _ _ (bq nd 2 4 rfl rfl (by decide)) J5.C),frw _ _ (bq nd 1 7 rfl rfl (by decide)) (fr6 _ _ (bq nd 1 4 rfl rfl (by decide)) J5.n)⟩,hN,hne,by omega,nd6,self,λ b o n1 n2 n3 n4 n5 n6 e=>frw _ _ n6 (fr6 _ _ n4 (F5 b o n1 e))⟩
   ·rw [lB (by rw [J5.O.D.lu]; exact hi)]
    have:=J5.O.bd j
    split <;> omega
   ·obtain ⟨a1,a2,a3,a4,e,zz⟩:=b5
    exact ⟨a1,a2,a3,a4,frw _ _ (np 7 _ rfl (by decide)) (fr6 _ _ (np 4 _ rfl (by decide)) e),zz⟩
  ·have O6:=J5.O.ext x6
   refine ⟨_,rfl,_,rfl,m,_,.inr "waits",_,rfl,.inl O6.H.hm,rfl,tN,_,.k (k:=.inr z) O6.H.hw,_,rfl,?_⟩
   rw [tm hm]
   have ok:=zZ ads (oM zw)
   refine jK ⟨_,rfl,_,rfl,_,rfl,few (by simp),_,_,.d,.d,mG (by decide) ok ok,?_⟩
   rw [l8 ok]
   exact k _ ⟨S,q,r,w,h,u,t,N,⟨O6,Ext.bag x6 b5,x6 _ _ J5.C,x6 _ _ J5.n⟩,hN,hne,by omega,nd6,self,λ b o n1 _ _ _ _ _ e=>x6 _ _ (F5 b o n1 e)⟩
 refine ⟨_,rfl,_,_,.d,.d,gx _ _,_,rfl,g9 (λ _=>?_) (λ _=>?_)⟩
 ·refine ⟨_,rfl,S,m,w,h,0,0,rfl,J5.O.e,J5.O.H.hm,λ h' M6 hh a1 a2 fr=>?_⟩
  have hd6:=fr _ _ dm J5.O.D.hd
  refine ⟨_,rfl,d,_,rfl,hd6,aeu,d,q,r,t,_,rfl,hd6,rfl,?_⟩
  have hM:=back F5 b5 hh
  have frd:∀ b o,b≠d->M6 b=some o->aK M6 d (.ins av (FD q r 0 (.d .none))) b=some o:=λ b o n e=>by rw [ah n]; exact e
  have hl6:∀ x∈[d,q,r,m,w,h],x≠h':=λ x hx=>by
   obtain ⟨o,e⟩:=J5.O.live x hx
   exact aW e hh
  refine k _ ⟨S,q,r,w,h',u,0,N,⟨⟨J5.O.e,⟨aa,frd _ _ (Ne.symm dq) (fr _ _ qm J5.O.D.hq),frd _ _ (bq nd 5 3 rfl rfl (by decide)) (fr _ _ (bq nd 5 6 rfl rfl (by decide)) J5.O.D.hr),J5.O.D.lu⟩,⟨frd _ _ (Ne.symm dm) a1,frd _ _ (Ne.symm dw) (fr _ _ (Ne.symm mw) J5.O.H.hw),frd _ _ (Ne.symm (hl6 d (by simp))) a2,J5.O.H.lu,J5.O.H.ne⟩,J5.O.bd⟩,?_,frd _ _ (bq nd 2 3 rfl rfl (by decide)) (fr _ _ (bq nd 2 6 rfl rfl (by decide)) J5.C),frd _ _ (bq nd 1 3 rfl rfl (by decide)) (fr _ _ (bq nd 1 6 rfl rfl (by decide)) J5.n)⟩,hN,hne,by omega,?_,λ x hx=>?_,λ b o n1 _ n3 _ n5 _ e=>frd _ _ n3 (fr _ _ n5 (F5 b o n1 e))⟩
  ·obtain ⟨a1,a2,a3,a4,e,zz⟩:=b5
   exact ⟨a1,a2,a3,a4,frd _ _ (np 3 _ rfl (by decide)) (fr _ _ (np 6 _ rfl (by decide)) e),zz⟩
  ·have:=eC (i:=5) nd6 (a:=h') (λ hx=>hl6 h' hx rfl)
   exact this
  ·simp only [List.mem_cons,List.not_mem_nil,or_false] at hx ⊢
   rcases hx with rfl | rfl | rfl | rfl | rfl | rfl <;> simp [hM]
 refine ⟨_,rfl,_,_,.d,.d,gx _ _,_,rfl,g9 (λ _=>?_) (λ _=>?_)⟩
 ·refine ⟨_,rfl,_,rfl,p,S,m,w,h,0,0,rfl,J5.O.e,b5,J5.O.H.hm,λ S2 e M6 ok ep he me b6 F6=>⟨e,S2.map cC,rfl,me,?_⟩⟩
  have F7:Fp M (jV M6 e) p:=λ b o n z=>by
   have z5:=F5 b o n z
   unfold jV
   rw [if_neg (aW z5 he)]
   exact F6 b o n z5
  have b7:Bag (jV M6 e) p:=by
   obtain ⟨a1,a2,a3,a4,z,zz⟩:=b6
   refine ⟨a1,a2,a3,a4,?_,zz⟩
   unfold jV
   rw [if_neg (Ne.symm ep)]
   exact z
  generalize jV M6 e=M7 at F7 b7
  clear me b6 F6 he ep
  have J7:=J.fp nd b7 F7
  have okl:dO (.list (S2.map cC)) (.list [])=true:=by
   show (kK _ && kK _)=true
   rw [show kK (.list (S2.map cC))=true from fM (by decide) (aea ok.e),fM (k:=1) (d:=.list []) (by decide) (by rfl)]; rfl
  have eql:PyData.eqv (.list (S2.map cC)) (.list [])=false:=by
   cases h2:S2 with
   | nil=>exact absurd h2 ok.ne
   | cons r rs=>rw [List.map_cons,PyData.eqv]; rfl
  dsimp only [gN]
  refine ⟨_,rfl,_,rfl,few (by simp),_,_,.d,.d,okl,_,rfl,uk eql ?_⟩
  obtain ⟨u2,lu2,hu2,bd2⟩:=ahw (S2:=S2) J5.O.e J5.O.D.lu J5.O.bd
  refine ⟨_,rfl,_,rfl,S,S2,m,w,h,0,0,kvL (nmL S) u,u2,rfl,ok,J7.O.H.hm,J7.O.H.hw,lu2,hu2,λ w' h' M8 hw8 hh8 H8 Fr8=>?_⟩
  have nm:nn≠m:=bq nd 1 6 rfl rfl (by decide)
  have nnd:nn≠d:=bq nd 1 3 rfl rfl (by decide)
  have nn8:=Fr8 _ _ nm J7.n
  have h24:=ok.len
  refine ⟨_,rfl,nn,_,rfl,nn8,_,rfl,_,rfl,λ i acc τ M'=>M'=M8/\acc=((S2.take i).filter λ r=>decide (r.1 ∉ N)).map (λ r=>PyData.str r.1)/\∃ x,τ=[x,some (.m nn)],⟨rfl,rfl,_,rfl⟩,?_,?_⟩
  ·rintro i w' acc τ M' hw ⟨rfl,rfl,x,rfl⟩
   rw [List.map_map] at hw
   obtain ⟨r,hr,rfl⟩:=eh hw
   have ht:S2.take (i+1)=S2.take i++[r]:=by rw [List.take_succ,hr]; rfl
   have hle:=List.length_filter_le (λ r:Str×Nat=>decide (r.1 ∉ N)) (S2.take i)
   rw [List.length_take] at hle
   refine ⟨by rw [List.length_map]; omega,_,rfl,0,_,rfl,rfl,rfl,_,rfl,r.1,N,rfl,.m nn8,_,rfl,?_⟩
   rw [if_pos rfl]
   refine g9 (λ hb=>?_) (λ hb=>?_)
   ·have e1:([r].filter λ r=>decide (r.1 ∉ N))=[r]:=by
     have:r.1 ∉ N:=by simpa using hb
     simp only [List.filter,decide_eq_true this]
    refine ⟨_,rfl,0,_,rfl,rfl,rfl,_,rfl,rfl,?_,_,rfl⟩
    rw [ht,List.filter_append,e1,List.map_append]
    rfl
   ·have e1:([r].filter λ r=>decide (r.1 ∉ N))=[]:=by
     have:¬ r.1 ∉ N:=by simpa using hb
     simp only [List.filter,decide_eq_false this]
    refine ⟨rfl,?_,_,rfl⟩
    rw [ht,List.filter_append,e1,List.append_nil]
  rintro acc τ M' ⟨rfl,rfl,x,rfl⟩
  have el:S2.take ((S2.map cC).map W.d).length=S2:=List.take_of_length_le (by simp)
  rw [el]
  generalize hNF:(S2.filter λ r=>decide (r.1 ∉ N))=NF
  have lNF:NF.length<=4:=by rw [<- hNF]; exact Nat.le_trans (List.length_filter_le _ _) h24
  refine ⟨_,_,rfl,nn8,by simp only [a6,List.length_map]; omega,?_⟩
  have eN:a6 N++(NF.map λ r=>PyData.str r.1).map W.d=a6 (N++NF.map (·.1)):=by simp [a6]
  rw [eN]
  have wN:∀ z∈N++NF.map (·.1),wd z=true:=λ z hz=>by
   rcases List.mem_append.mp hz with hz | hz
   ·exact hN z hz
   ·obtain ⟨r,hr,rfl⟩:=List.mem_map.mp hz
    rw [<- hNF] at hr
    exact (ok.row r (List.mem_filter.mp hr).1).1
  have fr9:∀ b o,b≠nn->M' b=some o->aK M' nn (.lst (a6 (N++NF.map (·.1)))) b=some o:=λ b o n e=>by rw [ah n]; exact e
  have n9:aK M' nn (.lst (a6 (N++NF.map (·.1)))) nn=some (.lst (a6 (N++NF.map (·.1)))):=aa
  have no9:∀ a,aK M' nn (.lst (a6 (N++NF.map (·.1)))) a=none->M' a=none:=λ a e=>by
   have n:a≠nn:=λ z=>by rw [z,aa] at e; cases e
   rw [ah n] at e; exact e
  generalize aK M' nn (.lst (a6 (N++NF.map (·.1))))=M9 at fr9 n9 no9
  have hd9:=fr9 _ _ (Ne.symm nnd) (Fr8 _ _ dm J7.O.D.hd)
  have hq9:=fr9 _ _ (bq nd 4 1 rfl rfl (by decide)) (Fr8 _ _ qm J7.O.D.hq)
  have hr9:=fr9 _ _ (bq nd 5 1 rfl rfl (by decide)) (Fr8 _ _ (bq nd 5 6 rfl rfl (by decide)) J7.O.D.hr)
  have C9:=fr9 _ _ (bq nd 2 1 rfl rfl (by decide)) (Fr8 _ _ (bq nd 2 6 rfl rfl (by decide)) J7.C)
  have wnn:w'≠nn:=Ne.symm (aW J7.n hw8)
  have hnn:h'≠nn:=Ne.symm (aW J7.n hh8)
  have m9:=fr9 _ _ (Ne.symm nm) H8.hm
  have w9:=fr9 _ _ wnn H8.hw
  have h9:=fr9 _ _ hnn H8.hh
  refine ⟨_,rfl,d,_,rfl,hd9,ac3,_,rfl,S2,d,q,r,t,_,kvL (nmL S) u,u2,rfl,ok,C9,hd9,hq9,lu2,hu2,λ q' r' M10 hq' hr' D10 fr10=>⟨rfl,?_⟩⟩
  have l7:∀ x∈[d,q,r,m,w,h],∃ o,M7 x=some o:=J7.O.live
  have wd':w'≠d:=Ne.symm (aW J7.O.D.hd hw8)
  have hd':h'≠d:=Ne.symm (aW J7.O.D.hd hh8)
  have nd1:=eC (i:=4) nd6 (a:=w') λ hx=>by obtain ⟨o,e⟩:=l7 _ hx; rw [e] at hw8; cases hw8
  have nd2:=eC (i:=5) nd1 (a:=h') λ hx=>by
   rcases List.mem_or_eq_of_mem_set hx with hx | hx
   ·obtain ⟨o,e⟩:=l7 _ hx; rw [e] at hh8; cases hh8
   ·exact H8.wh hx.symm
  have l9:∀ x∈[d,q,r,m,w',h'],∃ o,M9 x=some o:=λ x hx=>by
   simp only [List.mem_cons,List.not_mem_nil,or_false] at hx
   rcases hx with rfl | rfl | rfl | rfl | rfl | rfl
   ·exact ⟨_,hd9⟩
   ·exact ⟨_,hq9⟩
   ·exact ⟨_,hr9⟩
   ·exact ⟨_,m9⟩
   ·exact ⟨_,w9⟩
   ·exact ⟨_,h9⟩
  have nd3:=eC (i:=1) nd2 (a:=q') λ hx=>by obtain ⟨o,e⟩:=l9 _ hx; rw [e] at hq'; cases hq'
  have nd4:=eC (i:=2) nd3 (a:=r') λ hx=>by
   rcases List.mem_or_eq_of_mem_set hx with hx | hx
   ·obtain ⟨o,e⟩:=l9 _ hx; rw [e] at hr'; cases hr'
   ·exact D10.qr hx.symm
  have new:∀ a,M9 a=none->M a=none:=λ a ha=>back F7 b7 (by
   have h8:=no9 a ha
   cases z:M7 a with
   | none=>rfl
   | some o =>
    have n:a≠m:=λ e=>by rw [e,H8.hm] at h8; cases h8
    rw [Fr8 a o n z] at h8; cases h8)
  refine k _ ⟨S2,q',r',w',h',u2,0,N++NF.map (·.1),⟨⟨ok.e,D10,⟨fr10 _ _ (Ne.symm dm) m9,fr10 _ _ wd' w9,fr10 _ _ hd' h9,lu2,H8.ne⟩,bd2⟩,?_,fr10 _ _ (bq nd 2 3 rfl rfl (by decide)) C9,fr10 _ _ nnd n9⟩,wN,?_,by simp only [List.length_append,List.length_map]; omega,nd4,λ x hx=>?_,λ b o n1 n2 n3 _ n5 _ z=>fr10 _ _ n3 (fr9 _ _ n2 (Fr8 _ _ n5 (F7 b o n1 z)))⟩
  ·obtain ⟨a1,a2,a3,a4,z,zz⟩:=b7
   exact ⟨a1,a2,a3,a4,fr10 _ _ (np 3 _ rfl (by decide)) (fr9 _ _ (np 1 _ rfl (by decide)) (Fr8 _ _ (np 6 _ rfl (by decide)) z)),zz⟩
  ·intro e
   exact hne (List.append_eq_nil_iff.mp e).1
  ·have nq:=new q' hq'
   have nr:=new r' hr'
   have nw:=back F7 b7 hw8
   have nh:=back F7 b7 hh8
   simp only [List.mem_cons,List.not_mem_nil,or_false] at hx ⊢
   rcases hx with rfl | rfl | rfl | rfl | rfl | rfl <;> simp [nq,nr,nw,nh]
 ·refine ⟨_,rfl,_,rfl,S,d,q,r,m,w,h,u,t,rfl,J5.O,nd6,λ u' t' M6 O6 fr=>?_⟩
  refine k _ ⟨S,q,r,w,h,u',t',N,⟨O6,?_,fr _ _ (bq nd 2 3 rfl rfl (by decide)) (bq nd 2 4 rfl rfl (by decide)) (bq nd 2 7 rfl rfl (by decide)) J5.C,fr _ _ (bq nd 1 3 rfl rfl (by decide)) (bq nd 1 4 rfl rfl (by decide)) (bq nd 1 7 rfl rfl (by decide)) J5.n⟩,hN,hne,by omega,nd6,self,λ b o n1 _ n3 n4 _ n6 e=>fr _ _ n3 n4 n6 (F5 b o n1 e)⟩
  obtain ⟨a1,a2,a3,a4,e,zz⟩:=b5
  exact ⟨a1,a2,a3,a4,fr _ _ (np 3 _ rfl (by decide)) (np 4 _ rfl (by decide)) (np 7 _ rfl (by decide)) e,zz⟩
inductive ft (ws:List W) (M:MH) (Q:QD):Prop
 | mk (nn:Addr) (S:Sh) (d q r m w h:Addr) (u:List Int) (t:Nat) (N:List Str) (z0:ws=[.m d,.m m,.m nn]) (z1:One M S d q r m w h u t) (z2:M nn=some (.lst (a6 N))) (z3:∀ z∈N,wd z=true) (z4:nn ∉ [d,q,r,m,w,h]) (z5:∀ M',Ext M M'->Q (.d (.bool true)) M'):ft ws M Q
def aT:SpD:=ft
theorem iz:∀ ws M Q,aT ws M Q->ws.length=3:=by rintro ws M Q ⟨nn,S,d,q,r,m,w,h,u,t,N,rfl,_⟩; rfl
theorem gM:∀ ws M Q,aT ws M Q->fH bQ { nx:=λ _ M'=>Q (.d .none) M',rt:=Q } (aQ fQ ws) M:=by
 rintro ws M Q ⟨nn,S,d,q,r,m,w,h,u,t,N,rfl,O,hn,hN,nin,k⟩
 have O1:One (aK M nn (.flst (a6 N))) S d q r m w h u t:=O.keep λ b hb o e=>by rw [ah (show b≠nn from λ z=>nin (z ▸ hb))]; exact e
 have n1:aK M nn (.flst (a6 N)) nn=some (.flst (a6 N)):=aa
 have f1:∀ b o,b≠nn->M b=some o->aK M nn (.flst (a6 N)) b=some o:=λ b o n e=>by rw [ah n]; exact e
 refine ⟨nn,_,hn,?_⟩
 generalize aK M nn (.flst (a6 N))=M1 at O1 n1 f1
 refine ⟨_,rfl,nn,_,rfl,n1,λ _ τ M'=>Ext M1 M'/\∃ x3 x4 x5,τ=[some (.m d),some (.m m),some (.m nn),x3,x4,x5],⟨Ext.refl _,_,_,_,rfl⟩,?_,?_⟩
 ·rintro i w' τ M2 hw ⟨x2,x3,x4,x5,rfl⟩
  obtain ⟨z,hz,rfl⟩:∃ z,z∈N/\w'=.d (.str z):=by
   unfold a6 at hw
   obtain ⟨z,hz,rfl⟩:=eh hw
   exact ⟨z,List.mem_of_getElem? hz,rfl⟩
  have zw:=hN z hz
  have O2:=O1.ext x2
  refine ⟨_,rfl,_,rfl,few (by simp),?_⟩
  refine ⟨_,rfl,_,rfl,m,_,.inr "waits",_,rfl,.inl O2.H.hm,rfl,tN,_,.k (k:=.inr z) O2.H.hw,_,rfl,?_⟩
  by_cases hm:z∈nmL S
  ·obtain ⟨i,hi,e⟩:=List.getElem_of_mem hm
   have hz':(nmL S)[i]? = some z:=by rw [List.getElem?_eq_getElem hi,e]
   have get:=O2.H.get O2.e hz'
   rw [get]
   refine jK ⟨_,rfl,m,_,.inr "waits",_,rfl,.inl O2.H.hm,rfl,tN,_,rfl,w,_,.inr z,_,rfl,.inl O2.H.hw,rfl,get,_,rfl,few (by simp),?_⟩
   refine ⟨_,rfl,_,rfl,S,d,q,r,u,t,_,1,z,0,rfl,O2.e,O2.D,zw,.inr rfl,(λ e=>by cases e),λ _ i' hz2=>?_,λ hx=>absurd hm hx⟩
   have get2:=O2.H.get O2.e hz2
   have ec:cv u i'=cv u i:=by
    rw [get] at get2
    exact (PyData.int.inj (W.d.inj (Option.some.inj get2))).symm
   rw [ec]
   have bdi:=O2.bd i
   have ok:=we (n:=cv u i) aac (by omega)
   refine ⟨_,rfl,_,rfl,_,_,.d,.d,mG (by decide) ok ok,_,rfl,?_⟩
   rw [l8 ok]
   exact kI ⟨_,rfl,1,_,rfl,rfl,rfl,_,_,_,rfl,.d,.bool,_,rfl,kI ⟨x2,_,_,_,rfl⟩⟩
  ·rw [tm hm]
   refine kI ⟨_,rfl,_,rfl,S,d,q,r,u,t,_,1,z,0,rfl,O2.e,O2.D,zw,.inr rfl,(λ e=>by cases e),λ _ i' hz2=>absurd (List.mem_of_getElem? hz2) hm,λ _ M3 x3'=>?_⟩
   have ok:=zZ ads (oM zw)
   refine ⟨_,rfl,_,rfl,_,_,.d,.d,mG (by decide) ok ok,_,rfl,?_⟩
   rw [l8 ok]
   exact kI ⟨_,rfl,1,_,rfl,rfl,rfl,_,_,_,rfl,.d,.bool,_,rfl,kI ⟨x2.trans x3',_,_,_,rfl⟩⟩
 ·rintro τ M2 ⟨x2,x3,x4,x5,rfl⟩
  refine ⟨x2 _ _ n1,k _ λ b o e=>?_⟩
  by_cases z:b=nn
  ·subst z; rw [aa,<- e,hn]
  ·rw [ah z]; exact x2 _ _ (f1 b o z e)
structure Tw (M:MH)(p nn dd ll:Addr)(S:Sh)(d q r m w h:Addr)(u:List Int)(t:Nat)(S2:Sh)(d2 q2 r2 m2 w2 h2:Addr)(u2:List Int)(t2:Nat)(N:List Str):Prop where
 D:Ds M p nn S d q r m w h u t N
 O:One M S2 d2 q2 r2 m2 w2 h2 u2 t2
 nd:([p,nn,af,dd,ll]++([d,q,r,m,w,h]++[d2,q2,r2,m2,w2,h2])).Nodup
theorem Tw.swap {M:MH}{p nn dd ll:Addr}{S:Sh}{d q r m w h:Addr}{u:List Int}{t:Nat}{S2:Sh}{d2 q2 r2 m2 w2 h2:Addr}{u2:List Int}{t2:Nat}{N:List Str}(T:Tw M p nn dd ll S d q r m w h u t S2 d2 q2 r2 m2 w2 h2 u2 t2 N):Tw M p nn dd ll S2 d2 q2 r2 m2 w2 h2 u2 t2 S d q r m w h u t N :=
 ⟨⟨T.O,T.D.B,T.D.C,T.D.n⟩,T.D.O,(List.Perm.nodup_iff (List.Perm.append_left _ List.perm_append_comm)).mp T.nd⟩
theorem Tw.nd9 {M:MH}{p nn dd ll:Addr}{S:Sh}{d q r m w h:Addr}{u:List Int}{t:Nat}{S2:Sh}{d2 q2 r2 m2 w2 h2:Addr}{u2:List Int}{t2:Nat}{N:List Str}(T:Tw M p nn dd ll S d q r m w h u t S2 d2 q2 r2 m2 w2 h2 u2 t2 N):[p,nn,af,d,q,r,m,w,h].Nodup:=by
 have h1:([p,nn,af].Sublist [p,nn,af,dd,ll]):=by simp
 exact ((h1.append (List.sublist_append_left [d,q,r,m,w,h] [d2,q2,r2,m2,w2,h2])).nodup T.nd)
theorem Tw.agK {M M':MH}{p nn dd ll:Addr}{S:Sh}{d q r m w h:Addr}{u:List Int}{t:Nat}{S2:Sh}{d2 q2 r2 m2 w2 h2:Addr}{u2:List Int}{t2:Nat}{N:List Str}{n:Nat}{od ol:MO}(T:Tw M p nn dd ll S d q r m w h u t S2 d2 q2 r2 m2 w2 h2 u2 t2 N)(hdd:M dd=some od)(hll:M ll=some ol)(X:Done M p nn d q r m w h n M') :
  ∃ S' q' r' w' h' u' t' N',Tw M' p nn dd ll S' d q' r' m w' h' u' t' S2 d2 q2 r2 m2 w2 h2 u2 t2 N'/\(∀ z∈N',wd z=true)/\N'≠[]/\N'.length<=n+4/\M' dd=some od/\M' ll=some ol:=by
 obtain ⟨S',q',r',w',h',u',t',N',D',hw,hn,hl,nd',fr',fr⟩:=X
 have ne:∀ i j a b,([p,nn,af,dd,ll]++([d,q,r,m,w,h]++[d2,q2,r2,m2,w2,h2]))[i]? = some a->([p,nn,af,dd,ll]++([d,q,r,m,w,h]++[d2,q2,r2,m2,w2,h2]))[j]? = some b->i≠j->a≠b:=λ i j a b ha hb n=>bq T.nd i j ha hb n
 have keep:∀ i a o,([p,nn,af,dd,ll]++([d,q,r,m,w,h]++[d2,q2,r2,m2,w2,h2]))[i]? = some a->i≠0->i≠1->i≠5->i≠6->i≠8->i≠9->M a=some o->M' a=some o:=λ i a o ha n0 n1 n5 n6 n8 n9 e =>
  fr a o (ne i 0 _ _ ha rfl n0) (ne i 1 _ _ ha rfl n1) (ne i 5 _ _ ha rfl n5) (ne i 6 _ _ ha rfl n6) (ne i 8 _ _ ha rfl n8) (ne i 9 _ _ ha rfl n9) e
 have O2:One M' S2 d2 q2 r2 m2 w2 h2 u2 t2:=T.O.keep λ b hb o e=>by
  simp only [List.mem_cons,List.not_mem_nil,or_false] at hb
  rcases hb with rfl | rfl | rfl | rfl | rfl | rfl
  ·exact keep 11 _ o rfl (by decide) (by decide) (by decide) (by decide) (by decide) (by decide) e
  ·exact keep 12 _ o rfl (by decide) (by decide) (by decide) (by decide) (by decide) (by decide) e
  ·exact keep 13 _ o rfl (by decide) (by decide) (by decide) (by decide) (by decide) (by decide) e
  ·exact keep 14 _ o rfl (by decide) (by decide) (by decide) (by decide) (by decide) (by decide) e
  ·exact keep 15 _ o rfl (by decide) (by decide) (by decide) (by decide) (by decide) (by decide) e
  ·exact keep 16 _ o rfl (by decide) (by decide) (by decide) (by decide) (by decide) (by decide) e
 refine ⟨S',q',r',w',h',u',t',N',⟨D',O2,?_⟩,hw,hn,hl,keep 3 _ _ rfl (by decide) (by decide) (by decide) (by decide) (by decide) (by decide) hdd,keep 4 _ _ rfl (by decide) (by decide) (by decide) (by decide) (by decide) (by decide) hll⟩
 have live:∀ x∈[p,nn,af,dd,ll]++[d2,q2,r2,m2,w2,h2],∃ o,M x=some o:=λ x hx=>by
  rcases List.mem_append.mp hx with hx | hx
  ·simp only [List.mem_cons,List.not_mem_nil,or_false] at hx
   rcases hx with rfl | rfl | rfl | rfl | rfl
   ·obtain ⟨_,_,_,_,e,_⟩:=T.D.B
    exact ⟨_,e⟩
   ·exact ⟨_,T.D.n⟩
   ·exact ⟨_,T.D.C⟩
   ·exact ⟨_,hdd⟩
   ·exact ⟨_,hll⟩
  ·exact T.O.live x hx
 have nds:=List.nodup_append.mp T.nd
 have nds2:=List.nodup_append.mp nds.2.1
 have apart:∀ a∈[d,q',r',m,w',h'],∀ x∈[p,nn,af,dd,ll]++[d2,q2,r2,m2,w2,h2],a≠x:=λ a ha x hx e=>by
  rcases fr' a ha with h1 | h1
  ·rcases List.mem_append.mp hx with hx | hx
   ·exact nds.2.2 x hx a (List.mem_append_left _ h1) e.symm
   ·exact nds2.2.2 a h1 x hx e
  ·obtain ⟨o,z⟩:=live x hx
   rw [e,z] at h1
   cases h1
 rw [List.nodup_append,List.nodup_append]
 refine ⟨nds.1,⟨nd',nds2.2.1,λ a ha b hb=>apart a ha b (List.mem_append_right _ hb)⟩,λ a ha b hb e=>?_⟩
 rcases List.mem_append.mp hb with hb | hb
 ·exact apart b hb a (List.mem_append_left _ ha) e.symm
 ·exact nds.2.2 a ha b (List.mem_append_right _ hb) e
def jF:SpD:=λ ws M Q=>∃ ns:List Int,ws=[.d (.list (ns.map PyData.int))]/\ns.length<=63/\M af=some cdR/\∀ M',Q (.d (.bool true)) M'
theorem acw:∀ ws M Q,jF ws M Q->ws.length=1:=by rintro ws M Q ⟨d,rfl,_⟩; rfl
theorem y7:∀ ns:List Int,ns.length<=63->jF [.d (.list (ns.map PyData.int))] (M1T af eE ⟨46,41,46,92⟩) (λ w _=>w=.d (.bool true)):=λ ns h=>⟨ns,rfl,h,if_pos rfl,λ _=>rfl⟩
theorem ye (L:List Addr)(n:Nat)(hn:L.length=n)(idx:List Nat)(h:idx.Perm (List.range n)):(idx.map λ i=>L.getD i 0).Perm L:=by
 subst hn
 have e:(List.range L.length).map (λ i=>L.getD i 0)=L:=by
  apply List.ext_getElem
  ·simp
  ·intro i h1 h2
   simp [List.getElem?_eq_getElem h2]
 have:=h.map λ i=>L.getD i 0
 rw [e] at this
 exact this
structure Su (M:MH)(p:Addr)(L:List Addr):Prop where
 B:Bag M p
 nd:(L++[p]).Nodup
 lv:∀ x∈L,∃ o,M x=some o
theorem Su.ne {M:MH}{p x:Addr}{L:List Addr}(s:Su M p L)(hx:x∈L):x≠p:=λ e=>(List.nodup_append.mp s.nd).2.2 x hx p (by simp) e
theorem Su.step {M M':MH}{p:Addr}{L:List Addr}(s:Su M p L)(b:Bag M' p)(f:Fp M M' p):Su M' p L:=⟨b,s.nd,λ x hx=>by
 obtain ⟨o,e⟩:=s.lv x hx
 exact ⟨o,f x o (s.ne hx) e⟩⟩
theorem Su.ext {M M':MH}{p:Addr}{L:List Addr}(s:Su M p L)(x:Ext M M'):Su M' p L:=s.step (Ext.bag x s.B) λ b o _ e=>x b o e
theorem Su.new {M M':MH}{p a:Addr}{L:List Addr}{o:MO}(s:Su M p L)(s':Su M' p L)(ha:M a=none)(h:M' a=some o):Su M' p (a :: L):=by
 refine ⟨s'.B,?_,λ x hx=>?_⟩
 ·rw [List.cons_append,List.nodup_cons]
  refine ⟨λ z=>?_,s.nd⟩
  rcases List.mem_append.mp z with z | z
  ·obtain ⟨o,e⟩:=s.lv a z; rw [e] at ha; cases ha
  ·rw [List.mem_singleton.mp z] at ha
   obtain ⟨_,_,_,_,e,_⟩:=s.B
   rw [e] at ha; cases ha
 ·rcases List.mem_cons.mp hx with rfl | hx
  ·exact ⟨o,h⟩
  ·exact s'.lv x hx
theorem Su.sub {M:MH}{p:Addr}{L L':List Addr}(s:Su M p L)(h:L'.Sublist L):Su M p L':=⟨s.B,(h.append (List.Sublist.refl [p])).nodup s.nd,λ x hx=>s.lv x (h.subset hx)⟩
theorem Su.door {M M':MH}{p d q r:Addr}{L:List Addr}{S:Sh}{u:List Int}{t:Int}{v:W}(s:Su M p L)(hd:M d=none)(hq:aK M d (.ins av []) q=none)(hr:aK M d (.ins av []) r=none)(D:Dr M' S d q r u t v)(F:Fr (aK M d (.ins av [])) M' d):Ext M M'/\Su M' p (r :: q :: d :: L):=by
 have x:Ext M M':=λ b o e=>F b o (aW e hd) (cJ e hd)
 have qd:q≠d:=λ e=>by rw [e,aa] at hq; cases hq
 have rd:r≠d:=λ e=>by rw [e,aa] at hr; cases hr
 rw [ah qd] at hq
 rw [ah rd] at hr
 have s':=s.ext x
 have s1:=s.new s' hd D.hd
 have no:∀ {a},M a=none->a ∉ L++[p]:=λ {a} ha z=>by
  rcases List.mem_append.mp z with z | z
  ·obtain ⟨o,e⟩:=s.lv a z; rw [e] at ha; cases ha
  ·rw [List.mem_singleton.mp z] at ha
   obtain ⟨_,_,_,_,e,_⟩:=s.B
   rw [e] at ha; cases ha
 refine ⟨x,s'.B,?_,λ y hy=>?_⟩
 ·rw [List.cons_append,List.cons_append,List.nodup_cons,List.nodup_cons]
  refine ⟨λ z=>?_,λ z=>?_,s1.nd⟩
  ·rcases List.mem_cons.mp z with z | z
   ·exact D.qr z.symm
   ·rw [List.cons_append] at z
    rcases List.mem_cons.mp z with z | z
    ·exact rd z
    ·exact no hr z
  ·rw [List.cons_append] at z
   rcases List.mem_cons.mp z with z | z
   ·exact qd z
   ·exact no hq z
 ·rcases List.mem_cons.mp hy with rfl | hy
  ·exact ⟨_,D.hr⟩
  ·rcases List.mem_cons.mp hy with rfl | hy
   ·exact ⟨_,D.hq⟩
   ·exact s1.lv y hy
theorem Su.model {M M':MH}{p m w h:Addr}{L:List Addr}{S:Sh}{u:List Int}{t:Nat}{l:Int}(s:Su M p L)(hm:M m=none)(hw:M w=none)(hh:M h=none)(H:Mo M' S m w h u t l)(x:Ext M M'):Su M' p (h :: w :: m :: L):=by
 have s':=s.ext x
 have s1:=s.new s' hm H.hm
 have no:∀ {a},M a=none->a ∉ L++[p]:=λ {a} ha z=>by
  rcases List.mem_append.mp z with z | z
  ·obtain ⟨o,e⟩:=s.lv a z; rw [e] at ha; cases ha
  ·rw [List.mem_singleton.mp z] at ha
   obtain ⟨_,_,_,_,e,_⟩:=s.B
   rw [e] at ha; cases ha
 refine ⟨s'.B,?_,λ y hy=>?_⟩
 ·rw [List.cons_append,List.cons_append,List.nodup_cons,List.nodup_cons]
  refine ⟨λ z=>?_,λ z=>?_,s1.nd⟩
  ·rcases List.mem_cons.mp z with z | z
   ·exact H.wh z.symm
   ·rw [List.cons_append] at z
    rcases List.mem_cons.mp z with z | z
    ·exact H.mh z.symm
    ·exact no hh z
  ·rw [List.cons_append] at z
   rcases List.mem_cons.mp z with z | z
   ·exact H.ne z.symm
   ·exact no hw z
 ·rcases List.mem_cons.mp hy with rfl | hy
  ·exact ⟨_,H.hh⟩
  ·rcases List.mem_cons.mp hy with rfl | hy
   ·exact ⟨_,H.hw⟩
   ·exact s1.lv y hy
theorem wQ {T:Sh}(h:OkE T):dO (.list (T.map cC)) (.list [])=true/\PyData.eqv (.list (T.map cC)) (.list [])=decide (T=[]):=by
 refine ⟨?_,?_⟩
 ·show (kK _ && kK _)=true
  rw [show kK (.list (T.map cC))=true from fM (by decide) (aea h),fM (k:=1) (d:=.list []) (by decide) (by rfl)]; rfl
 ·cases T with
  | nil=>decide
  | cons r rs=>rw [List.map_cons,PyData.eqv]; rfl
inductive agG (S T:Sh) (p dd d q r:Addr) (M':MH):Prop
 | mk (e qe re:Addr) (s:Su M' p [dd,re,qe,e,r,q,d,af]) (C:M' af=some cdR) (D1:Dr M' S d q r (zz S) (0:Nat) (.d .none)) (D2:Dr M' T e qe re (zz T) (0:Nat) (.d .none)) (hD:M' dd=some (.lst [.m d,.m e])):agG S T p dd d q r M'
inductive ag2 (p nn dd ll d m d2 m2:Addr) (S0 T0:Option W) (i:Nat) (τ:DS) (M:MH):Prop
 | mk (x0 x7 x8 x9:Option W) (S:Sh) (q r w h:Addr) (u:List Int) (t:Nat) (S2:Sh) (q2 r2 w2 h2:Addr) (u2:List Int) (t2:Nat) (N:List Str) (T:Tw M p nn dd ll S d q r m w h u t S2 d2 q2 r2 m2 w2 h2 u2 t2 N) (hD:M dd=some (.lst [.m d,.m d2])) (hL:M ll=some (.lst [.m m,.m m2])) (hN:∀ z∈N,wd z=true) (hne:N≠[]) (hl:N.length<=9+4 * i)
   (e:τ=[x0,some (.m p),S0,T0,some (.m dd),some (.m ll),some (.m nn),x7,x8,x9]):ag2 p nn dd ll d m d2 m2 S0 T0 i τ M
inductive NxP (p nn dd ll d m e m2:Addr) (n:Nat) (M:MH):Prop
 | mk (S:Sh) (q r w h:Addr) (u:List Int) (t:Nat) (S2:Sh) (q2 r2 w2 h2:Addr) (u2:List Int) (t2:Nat) (N:List Str) (T:Tw M p nn dd ll S d q r m w h u t S2 e q2 r2 m2 w2 h2 u2 t2 N) (hD:M dd=some (.lst [.m d,.m e])) (hL:M ll=some (.lst [.m m,.m m2])) (hN:∀ z∈N,wd z=true) (hne:N≠[]) (hl:N.length<=n):NxP p nn dd ll d m e m2 n M
theorem Tw.ext {M M':MH}{p nn dd ll:Addr}{S:Sh}{d q r m w h:Addr}{u:List Int}{t:Nat}{S2:Sh}{d2 q2 r2 m2 w2 h2:Addr}{u2:List Int}{t2:Nat}{N:List Str}(T:Tw M p nn dd ll S d q r m w h u t S2 d2 q2 r2 m2 w2 h2 u2 t2 N)(x:Ext M M'):Tw M' p nn dd ll S d q r m w h u t S2 d2 q2 r2 m2 w2 h2 u2 t2 N :=
 ⟨⟨T.D.O.ext x,Ext.bag x T.D.B,x _ _ T.D.C,x _ _ T.D.n⟩,T.O.ext x,T.nd⟩
theorem Tw.nin {M:MH}{p nn dd ll:Addr}{S:Sh}{d q r m w h:Addr}{u:List Int}{t:Nat}{S2:Sh}{d2 q2 r2 m2 w2 h2:Addr}{u2:List Int}{t2:Nat}{N:List Str}(T:Tw M p nn dd ll S d q r m w h u t S2 d2 q2 r2 m2 w2 h2 u2 t2 N):nn ∉ [d,q,r,m,w,h]:=λ z =>
 (List.nodup_append.mp T.nd).2.2 nn (by simp) nn (List.mem_append_left _ z) rfl
theorem zh:∀ ws M Q,jF ws M Q->adT dU aZ ax a9 cx cT aT { nx:=λ _ M'=>Q (.d .none) M',rt:=Q } (aQ aey ws) M:=by
 rintro ws M Q ⟨ns,rfl,hl,hC,k⟩
 have sl:=s16
 refine ⟨_,rfl,ns,rfl,by omega,λ p M1 hp f1 b1=>?_⟩
 have pC:af≠p:=λ e=>by rw [e,hp] at hC; cases hC
 have C1:M1 af=some cdR:=by rw [f1 _ pC]; exact hC
 refine ⟨_,rfl,p,rfl,b1,λ S0 M2 hO b2 g2=>?_⟩
 have C2:=g2 _ _ pC C1
 have h4:=hO.len
 refine ⟨_,rfl,few (by simp),_,rfl,p,rfl,b2,λ T0 M3 hT0 b3 g3=>⟨_,rfl,few (by simp),_,rfl,p,2,rfl,b3,by decide,by decide,λ x M4 x0 x1 b4 g4=>?_⟩⟩
 have C4:M4 af=some cdR:=by rw [g4 _ pC]; exact g3 _ _ pC C2
 obtain ⟨T,hT,hix⟩:∃ T:Sh,OkE T/\ixW M4 (.d (.list [.list [],shD T0])) x=some (.d (shD T)):=by
  have:x=0\/x=1:=by omega
  rcases this with rfl | rfl
  ·exact ⟨[],OkE.nil,rfl⟩
  ·exact ⟨T0,hT0.e,rfl⟩
 refine ⟨_,_,rfl,hix,rfl,?_⟩
 clear hix g4 g3 b3 hT0 x0 x1 g2 b2 C2
 have hT4:=hT.len
 refine ⟨_,rfl,_,_,rfl,.l,λ f hf=>⟨f,S0.map cC,rfl,aa,?_⟩⟩
 have x5:=sealed (o:=.lst ((S0.map cC).map W.d)) hf
 generalize jV (aK M4 f (.lst ((S0.map cC).map W.d))) f=M5 at x5
 have C5:=x5 _ _ C4
 have s5:Su M5 p [af]:=⟨Ext.bag x5 b4,by simp [pC],λ y hy=>by rw [List.mem_singleton.mp hy]; exact ⟨_,C5⟩⟩
 intro d hd
 refine .inl ⟨S0,d,rfl,hO,cJ C5 hd,aa,λ q r M6 hq hr D1 F6=>⟨rfl,?_⟩⟩
 obtain ⟨x6,s6⟩:=s5.door hd hq hr D1 F6
 have C6:=x6 _ _ C5
 intro d2 hd2
 refine .inr ⟨d2,rfl,aa,λ q2 r2 M7 hq2 hr2 D2 F7=>⟨rfl,?_⟩⟩
 obtain ⟨x7,s7⟩:=s6.door hd2 hq2 hr2 D2 F7
 intro d3 hd3
 refine .inr ⟨d3,rfl,aa,λ q3 r3 M8 hq3 hr3 D3 F8=>⟨rfl,?_⟩⟩
 obtain ⟨x8,s8⟩:=s7.door hd3 hq3 hr3 D3 F8
 refine ⟨few (by simp),λ il hil=>?_⟩
 have x9:Ext M8 (aK M8 il (.lst [.m d2,.m d3])):=Ext.new hil
 have il9:aK M8 il (.lst [.m d2,.m d3]) il=some (.lst [.m d2,.m d3]):=aa
 have s9:=s8.new (s8.ext x9) hil il9
 generalize aK M8 il (.lst [.m d2,.m d3])=M9 at x9 il9 s9
 refine ⟨_,rfl,p,2,rfl,s9.B,by decide,by decide,λ y M10 y0 y1 b10 g10=>?_⟩
 have F10:Fp M9 M10 p:=λ b o n e=>by rw [g10 b n]; exact e
 have s10:=s9.step b10 F10
 have il10:=F10 _ _ (s9.ne (by simp)) il9
 obtain ⟨e,qe,re,hix,De,se⟩:∃ e qe re,ixW M10 (.m il) y=some (.m e)/\Dr M10 [] e qe re [] (0:Nat) (.d .none)/\Su M10 p [re,qe,e,r,q,d,af]:=by
  have:y=0\/y=1:=by omega
  rcases this with rfl | rfl
  ·have D':=(D2.ext x8).ext x9
   refine ⟨d2,q2,r2,oh il10 rfl,⟨F10 _ _ (s9.ne (by simp)) D'.hd,F10 _ _ (s9.ne (by simp)) D'.hq,F10 _ _ (s9.ne (by simp)) D'.hr,rfl⟩,s10.sub (List.drop_sublist 4 [il,r3,q3,d3,r2,q2,d2,r,q,d,af])⟩
  ·have D':=D3.ext x9
   refine ⟨d3,q3,r3,oh il10 rfl,⟨F10 _ _ (s9.ne (by simp)) D'.hd,F10 _ _ (s9.ne (by simp)) D'.hq,F10 _ _ (s9.ne (by simp)) D'.hr,rfl⟩,s10.sub ((List.drop_sublist 1 [il,r3,q3,d3]).append (List.drop_sublist 3 [r2,q2,d2,r,q,d,af]))⟩
 have D1':Dr M10 S0 d q r (zz S0) (0:Nat) (.d .none):=by
  have D':=((D1.ext x7).ext x8).ext x9
  exact ⟨F10 _ _ (s9.ne (by simp)) D'.hd,F10 _ _ (s9.ne (by simp)) D'.hq,F10 _ _ (s9.ne (by simp)) D'.hr,D'.lu⟩
 have C10:M10 af=some cdR:=F10 _ _ pC (x9 _ _ (x8 _ _ (x7 _ _ C6)))
 refine ⟨_,_,rfl,hix,rfl,few (by simp),λ dd hdd=>?_⟩
 have x11:Ext M10 (aK M10 dd (.lst [.m d,.m e])):=Ext.new hdd
 have d11:aK M10 dd (.lst [.m d,.m e]) dd=some (.lst [.m d,.m e]):=aa
 have s11:=se.new (se.ext x11) hdd d11
 have D11:=D1'.ext x11
 have E11:=De.ext x11
 have C11:=x11 _ _ C10
 generalize aK M10 dd (.lst [.m d,.m e])=M11 at x11 d11 s11 D11 E11 C11
 clear x11 De D1' C10 se hix il10 s10 F10 g10 b10 y0 y1 s9 il9 x9 hil s8 x8 D3 F8 hq3 hr3 hd3 s7 x7 D2 F7 hq2 hr2 hd2 s6 x6 D1 F6 hq hr s5 x5 C5 C6 hdd
 dsimp only [gN]
 refine kC (λ M'=>agG S0 T p dd d q r M') (λ M12 P=>?_) (λ rest=>?_)
 case refine_2 =>
  refine ⟨_,rfl,_,rfl,few (by simp),_,_,.d,.d,(wQ hT).1,_,rfl,?_⟩
  by_cases hTn:T=[]
  ·subst hTn
   exact uk (by decide) (rest _ ⟨e,qe,re,s11,C11,D11,E11,d11⟩)
  ·refine zy (by rw [show PyData.eqv (shD T) (.list [])=decide (T=[]) from (wQ hT).2,decide_eq_false hTn]; rfl) ⟨_,rfl,_,_,rfl,.l,λ f2 hf2=>⟨f2,T.map cC,rfl,aa,?_⟩⟩
   have x12:=sealed (o:=.lst ((T.map cC).map W.d)) hf2
   generalize jV (aK M11 f2 (.lst ((T.map cC).map W.d))) f2=M12 at x12
   have s12:=s11.ext x12
   have C12:=x12 _ _ C11
   intro d4 hd4
   refine .inl ⟨T,d4,rfl,hT.s hTn,cJ C12 hd4,aa,λ q4 r4 M13 hq4 hr4 D4 F13=>⟨rfl,?_⟩⟩
   obtain ⟨x13,s13⟩:=s12.door hd4 hq4 hr4 D4 F13
   have d13:=x13 _ _ (x12 _ _ d11)
   refine ⟨_,rfl,dd,_,1,1,rfl,rfl,d13,rfl,?_⟩
   have fr:∀ b o,b≠dd->M13 b=some o->aK M13 dd (.lst [.m d,.m d4]) b=some o:=λ b o n z=>by rw [ah n]; exact z
   have nd13:=s13.nd
   have nn:∀ i x,([r4,q4,d4,dd,re,qe,e,r,q,d,af]++[p])[i]? = some x->i≠3->x≠dd:=λ i x hx n=>bq nd13 i 3 hx rfl n
   have s14:Su (aK M13 dd (.lst [.m d,.m d4])) p [dd,r4,q4,d4,r,q,d,af]:=by
    refine ⟨?_,?_,λ z hz=>?_⟩
    ·obtain ⟨a1,a2,a3,a4,z,zz⟩:=s13.B
     exact ⟨a1,a2,a3,a4,fr _ _ (nn 11 _ rfl (by decide)) z,zz⟩
    ·have h1:=(ye ([r4,q4,d4,dd,re,qe,e,r,q,d,af]++[p]) 12 rfl [3,0,1,2,7,8,9,10,11,4,5,6] (by decide)).nodup_iff.mpr nd13
     exact (List.take_sublist 9 _).nodup h1
    ·by_cases zd:z=dd
     ·rw [zd]; exact ⟨_,aa⟩
     ·have hz':z∈[r4,q4,d4,dd,re,qe,e,r,q,d,af]:=by
       simp only [List.mem_cons,List.not_mem_nil,or_false] at hz ⊢
       rcases hz with rfl | rfl | rfl | rfl | rfl | rfl | rfl | rfl <;> simp
      obtain ⟨o,z'⟩:=s13.lv z hz'
      exact ⟨o,fr _ _ zd z'⟩
   have D14:=(D11.ext x12).ext x13
   exact rest _ ⟨d4,q4,r4,s14,fr _ _ (nn 10 _ rfl (by decide)) (x13 _ _ C12),⟨fr _ _ (nn 9 _ rfl (by decide)) D14.hd,fr _ _ (nn 8 _ rfl (by decide)) D14.hq,fr _ _ (nn 7 _ rfl (by decide)) D14.hr,D14.lu⟩,⟨fr _ _ (nn 2 _ rfl (by decide)) D4.hd,fr _ _ (nn 1 _ rfl (by decide)) D4.hq,fr _ _ (nn 0 _ rfl (by decide)) D4.hr,D4.lu⟩,aa⟩
 clear d11 s11 D11 E11 C11 M11
 clear re qe e
 obtain ⟨e,qe,re,s12,C12,D12,E12,d12⟩:=P
 refine ⟨_,rfl,S0,rfl,hO.e,λ m w h M13 hm hw hh H13 x13=>⟨_,rfl,T,rfl,hT,λ m2 w2 h2 M14 hm2 hw2 hh2 H14 x14=>⟨few (by simp),λ ll hll=>?_⟩⟩⟩
 have s13:=s12.model hm hw hh H13 x13
 have s14:=s13.model hm2 hw2 hh2 H14 x14
 have x15:Ext M14 (aK M14 ll (.lst [.m m,.m m2])):=Ext.new hll
 have l15:aK M14 ll (.lst [.m m,.m m2]) ll=some (.lst [.m m,.m m2]):=aa
 have s15:=s14.new (s14.ext x15) hll l15
 generalize aK M14 ll (.lst [.m m,.m m2])=M15 at x15 l15 s15
 have x1215:=(x13.trans x14).trans x15
 have H13':Mo M15 S0 m w h (zz S0) 0 0:=H13.keep λ b o _ z=>x15 _ _ (x14 _ _ z)
 have H14':Mo M15 T m2 w2 h2 (zz T) 0 0:=H14.keep λ b o _ z=>x15 _ _ z
 refine ⟨_,rfl,_,rfl,_,_,.d,.d,few (by simp only [List.length_map]; omega),_,rfl,?_⟩
 rw [<- List.map_append,List.map_map]
 refine gw (S0++T) (W.d ∘ cC) (λ r=>.str r.1) (λ τ=>∃ x y,τ=[x,y]) (by rw [List.length_append]; omega) ⟨_,_,rfl⟩ (λ r hr τ hτ R h=>?_) (λ τ g hg=>?_)
 ·obtain ⟨x,y,rfl⟩:=hτ
  exact ⟨_,rfl,rfl,_,_,rfl,_,_,rfl,rfl,_,rfl,_,rfl,h _ ⟨_,_,rfl⟩⟩
 refine ⟨few (by simp),λ bb hbb=>⟨g,bb,_,_,rfl,rfl,cJ aa hbb,aa,by simp only [List.length_map,List.length_append,List.length_cons,List.length_nil]; omega,λ nn hnn=>?_⟩⟩
 have eN:((S0++T).map λ r=>PyData.str r.1).map W.d++[.d (.str "nobody")]=a6 ((S0++T).map (·.1)++[("nobody" : Str)]):=by
  have h1:∀ l:Sh,(l.map λ r=>PyData.str r.1).map W.d=a6 (l.map (·.1)):=λ l=>by unfold a6; rw [List.map_map,List.map_map]; rfl
  rw [h1]
  unfold a6
  exact (List.map_append (l₂:=[("nobody" : Str)])).symm
 rw [eN]
 have x16:=(Ext.new (o:=.lst (((S0++T).map λ r=>PyData.str r.1).map W.d)) hg).trans (Ext.new (o:=.lst [.d (.str "nobody")]) hbb)
 generalize aK (aK M15 g (.lst (((S0++T).map λ r=>PyData.str r.1).map W.d))) bb (.lst [.d (.str "nobody")])=M16 at x16 hnn
 have s16':=s15.ext x16
 have x17:Ext M16 (aK M16 nn (.lst (a6 ((S0++T).map (·.1)++[("nobody" : Str)])))):=Ext.new hnn
 have n17:aK M16 nn (.lst (a6 ((S0++T).map (·.1)++[("nobody" : Str)]))) nn=some (.lst (a6 ((S0++T).map (·.1)++[("nobody" : Str)]))):=aa
 have s17:=s16'.new (s16'.ext x17) hnn n17
 generalize aK M16 nn (.lst (a6 ((S0++T).map (·.1)++[("nobody" : Str)])))=M17 at x17 n17 s17
 have xx:=x1215.trans (x16.trans x17)
 have xy:=x16.trans x17
 have wN:∀ z∈(S0++T).map (·.1)++[("nobody" : Str)],wd z=true:=λ z hz=>by
  rcases List.mem_append.mp hz with hz | hz
  ·obtain ⟨r,hr,rfl⟩:=List.mem_map.mp hz
   rcases List.mem_append.mp hr with hr | hr
   ·exact (hO.row r hr).1
   ·exact (hT.row r hr).1
  ·rw [List.mem_singleton.mp hz]; decide +kernel
 have T17:Tw M17 p nn dd ll S0 d q r m w h (zz S0) 0 T e qe re m2 w2 h2 (zz T) 0 ((S0++T).map (·.1)++[("nobody" : Str)]):=by
  refine ⟨⟨⟨hO.e,D12.ext xx,H13'.keep λ b o _ z=>xy _ _ z,λ j=>by rw [adf]; decide⟩,s17.B,xx _ _ C12,n17⟩,⟨hT,E12.ext xx,H14'.keep λ b o _ z=>xy _ _ z,λ j=>by rw [adf]; decide⟩,?_⟩
  exact (ye ([nn,ll,h2,w2,m2,h,w,m,dd,re,qe,e,r,q,d,af]++[p]) 17 rfl [16,0,15,8,1,14,13,12,7,6,5,11,10,9,4,3,2] (by decide)).nodup_iff.mpr s17.nd
 refine ⟨36,rfl,by decide,by decide,ag2 p nn dd ll d m e m2 (some (.d (shD S0))) (some (.d (shD T))),⟨_,_,_,_,S0,q,r,w,h,zz S0,0,T,qe,re,w2,h2,zz T,0,_,T17,xx _ _ d12,xy _ _ l15,wN,by simp,by simp only [List.length_append,List.length_map,List.length_cons,List.length_nil]; omega,rfl⟩,λ i w' τ M18 hw18 P=>?_,λ τ M18 P=>k M18⟩
 obtain ⟨hi,rfl⟩:=wu hw18
 clear hw18 T17 s17 n17 x17 xx xy s16' x16 eN hnn hbb hg H13' H14' x1215 s15 l15 x15 s14 s13 H13 H14 x13 x14 hm hw hh hm2 hw2 hh2 hll d12 E12 D12 C12 s12 wN
 obtain ⟨x0,x7,x8,x9,S,q,r,w,h,u,t,S2,q2,r2,w2,h2,u2,t2,N,T1,hD,hL,hN,hne,hlN,rfl⟩:=P
 have hi36:i < 36:=hi
 refine ⟨_,rfl,p,2,rfl,T1.D.B,by decide,by decide,λ a M19 a0 a1 b19 g19=>?_⟩
 have F19:Fp M18 M19 p:=λ b o n z=>by rw [g19 b n]; exact z
 have np:∀ i x,([p,nn,af,dd,ll]++([d,q,r,m,w,h]++[e,q2,r2,m2,w2,h2]))[i]? = some x->i≠0->x≠p:=λ i x hx n=>bq T1.nd i 0 hx rfl n
 have T19:Tw M19 p nn dd ll S d q r m w h u t S2 e q2 r2 m2 w2 h2 u2 t2 N:=⟨T1.D.fp T1.nd9 b19 F19,(T1.swap.D.fp T1.swap.nd9 b19 F19).O,T1.nd⟩
 have D19:=F19 _ _ (np 3 _ rfl (by decide)) hD
 have L19:=F19 _ _ (np 4 _ rfl (by decide)) hL
 have hlen:N.length<=900:=by omega
 clear F19 g19 b19 np hD hL T1
 dsimp only [gN]
 refine kC (λ M'=>NxP p nn dd ll d m e m2 (N.length+4) M') (λ M20 P=>?_) (λ rest=>?_)
 case refine_2 =>
  have:a=0\/a=1:=by omega
  rcases this with rfl | rfl
  ·refine ⟨_,rfl,_,rfl,_,rfl,0,_,rfl,oh D19 rfl,rfl,_,rfl,_,rfl,0,_,rfl,oh L19 rfl,rfl,_,rfl,p,nn,S,d,q,r,m,w,h,u,t,N,rfl,T19.D,hN,hne,hlen,T19.nd9,λ M20 X=>⟨_,rfl,kI (rest _ ?_)⟩⟩
   obtain ⟨S',q',r',w',h',u',t',N',T',hw',hn',hl',d',l'⟩:=T19.agK D19 L19 X
   exact ⟨S',q',r',w',h',u',t',S2,q2,r2,w2,h2,u2,t2,N',T',d',l',hw',hn',hl'⟩
  ·refine ⟨_,rfl,_,rfl,_,rfl,1,_,rfl,oh D19 rfl,rfl,_,rfl,_,rfl,1,_,rfl,oh L19 rfl,rfl,_,rfl,p,nn,S2,e,q2,r2,m2,w2,h2,u2,t2,N,rfl,T19.swap.D,hN,hne,hlen,T19.swap.nd9,λ M20 X=>⟨_,rfl,kI (rest _ ?_)⟩⟩
   obtain ⟨S',q',r',w',h',u',t',N',T',hw',hn',hl',d',l'⟩:=T19.swap.agK D19 L19 X
   exact ⟨S,q,r,w,h,u,t,S',q',r',w',h',u',t',N',T'.swap,d',l',hw',hn',hl'⟩
 clear T19 D19 L19
 obtain ⟨S3,q3,r3,w3,h3,u3,t3,S4,q4,r4,w4,h4',u4,t4,N',T',hD',hL',hN',hne',hl'⟩:=P
 refine ⟨2,rfl,by decide,by decide,λ _ τ M'=>Ext M20 M'/\∃ x9',τ=[x0,some (.m p),some (.d (shD S0)),some (.d (shD T)),some (.m dd),some (.m ll),some (.m nn),some (.d (.int i)),some (.d (.int a)),x9'],⟨Ext.refl _,_,rfl⟩,λ j w' τ M21 hw21 P=>?_,λ τ M21 P=>?_⟩
 ·obtain ⟨x21,x9',rfl⟩:=P
  obtain ⟨hj,rfl⟩:=wu hw21
  have T21:=T'.ext x21
  have D21:=x21 _ _ hD'
  have L21:=x21 _ _ hL'
  have:j=0\/j=1:=by have:j < 2:=hj; omega
  rcases this with rfl | rfl
  ·exact ⟨_,rfl,_,rfl,0,_,rfl,oh D21 rfl,rfl,_,rfl,_,rfl,0,_,rfl,oh L21 rfl,rfl,_,rfl,nn,S3,d,q3,r3,m,w3,h3,u3,t3,N',rfl,T21.D.O,T21.D.n,hN',T21.nin,λ M22 x22=>⟨_,rfl,kI ⟨x21.trans x22,_,rfl⟩⟩⟩
  ·exact ⟨_,rfl,_,rfl,1,_,rfl,oh D21 rfl,rfl,_,rfl,_,rfl,1,_,rfl,oh L21 rfl,rfl,_,rfl,nn,S4,e,q4,r4,m2,w4,h4',u4,t4,N',rfl,T21.O,T21.D.n,hN',T21.swap.nin,λ M22 x22=>⟨_,rfl,kI ⟨x21.trans x22,_,rfl⟩⟩⟩
 ·obtain ⟨x21,x9',rfl⟩:=P
  exact ⟨_,_,_,_,S3,q3,r3,w3,h3,u3,t3,S4,q4,r4,w4,h4',u4,t4,N',T'.ext x21,x21 _ _ hD',x21 _ _ hL',hN',hne',by omega,rfl⟩
end K83
namespace K83
open PySem PySem.Spec PyProof.Rows L2 D Stc
def top (i:Nat):Stmt:=PySem.Challenge.pw_placedworks_k83_asks_let_in.main.body.getD i (.Pass ⟨0,0,0,0⟩)
abbrev kz:Stmt:=top 22
abbrev gP:Stmt:=top 23
abbrev eP:Stmt:=top 24
abbrev eD:Stmt:=top 10
abbrev ef:Stmt:=top 8
abbrev dI:Stmt:=top 9
abbrev cD:Stmt:=top 15
abbrev bW:Stmt:=top 14
abbrev ig:Stmt:=top 17
abbrev cM:Stmt:=top 16
abbrev cW:Stmt:=inClass (top 20) 2
abbrev bL:Stmt:=inClass (top 20) 1
abbrev cF:Stmt:=inClass (top 20) 0
abbrev fE:Stmt:=top 25
abbrev bI:Stmt:=inClass (top 4) 0
abbrev bN:Stmt:=inClass (top 20) 4
abbrev cL:Stmt:=inClass (top 20) 3
abbrev gU:Stmt:=top 29
abbrev eJ:Stmt:=top 26
abbrev fL:Stmt:=top 27
abbrev fK:Stmt:=top 32
abbrev cU:Stmt:=top 28
abbrev bx:Stmt:=inClass (top 20) 8
abbrev cY:Stmt:=inClass (top 20) 6
abbrev eK:Stmt:=inClass (top 20) 7
abbrev gQ:Stmt:=top 31
abbrev hJ:Stmt:=top 33
abbrev bZ:Stmt:=top 30
abbrev mV:Stmt:=top 34
structure Env (K:PySem.W.Frag)(mg:Str->Option Value):Prop where
 k_Door:Cls K av
 m_Door:mg "Door" = some (.ref av)
 m_BadShare:mg "BadShare" = some (.ref eI)
 m_Known:mg "Known" = some (.ref jQ)
 m_PlaceError:mg "PlaceError" = some (.ref dP)
 m_Unknown:mg "Unknown" = some (.ref aw)
 x_Unknown:XO.XC K aw
 e_Unknown_PlaceError:PySem.W.exmOne K (.ref aw) (.ref dP)=some true
 h_round_of:PySem.W.codeHdIn K cI af=true
 i_Unknown_Known_BadShare:PySem.W.kitAny K (.ref aw) [.ref jQ,.ref eI]=some false
 i_Unknown_Unknown:PySem.W.kitAny K (.ref aw) [.ref aw]=some true
 i_Unknown_ValueError:PySem.W.kitAny K (.ref aw) [.type "ValueError"]=some true
 n_Door_asks_waiting:cy K av "asks_waiting"
 n_Door_next_slot:cy K av "next_slot"
 n_Door_number_led:cy K av "number_led"
 n_Door_owner_round:cy K av "owner_round"
 n_Unknown_name:cy K aw "name"
 b_ValueError:mg "ValueError" = none
 b_abs:mg "abs" = none
 b_all:mg "all" = none
 b_any:mg "any" = none
 b_bool:mg "bool" = none
 b_enumerate:mg "enumerate" = none
 b_int:mg "int" = none
 b_isinstance:mg "isinstance" = none
 b_len:mg "len" = none
 b_list:mg "list" = none
 b_max:mg "max" = none
 b_min:mg "min" = none
 b_range:mg "range" = none
 b_str:mg "str" = none
 b_sum:mg "sum" = none
 b_tuple:mg "tuple" = none
 c_LONGEST_WORD:∃ t,mg "LONGEST_WORD" = some (.int 8 t)
 c_MOST_GROUPS:∃ t,mg "MOST_GROUPS" = some (.int 4 t)
 c_MOST_SHARE:∃ t,mg "MOST_SHARE" = some (.int 9 t)
 c_MOST_WAITING:∃ t,mg "MOST_WAITING" = some (.int 40 t)
section
variable (P:Program)(w:World)(K:PySem.W.Frag)(mg:Str->Option Value)(base:Heap)
abbrev xw:=ZZ P w K mg base (Fn K mg "_law_bag" kz ["_law_script"]) 1 ["_law_script"] dU
abbrev gX:=ZZ P w K mg base (Fn K mg "_law_take" gP ["_law_bag_here", "_law_many"]) 1 ["_law_bag_here", "_law_many"] ax
abbrev iB:=ZZ P w K mg base (Fn K mg "_law_shares" eP ["_law_bag_here"]) 2 ["_law_bag_here"] aZ
abbrev lD:=ZZ P w K mg base (Fn K mg "is_whole" ef ["thing"]) 1 ["thing"] cn
abbrev jP:=ZZ P w K mg base (Fn K mg "is_within" dI ["thing", "low", "high"]) 2 ["thing", "low", "high"] bO
abbrev gk:=ZZ P w K mg base (Fn K mg "is_share_row" cD ["row"]) 3 ["row"] bc
abbrev fF:=ZZ P w K mg base (Fn K mg "refuse_shares" bW ["shares"]) 4 ["shares"] aV
abbrev tI:=ZZ P w K mg base (Fn K mg "due_at" ig ["unit", "whole", "share"]) 1 ["unit", "whole", "share"] cV
abbrev ly:=ZZ P w K mg base (Fn K mg "round_of" cM ["shares"]) 4 ["shares"] cj
abbrev fR:=ZZ P w K mg base (Mf K av "begin" "Door.begin" cW ["self"]) 1 ["self"] aO
abbrev cQ:=ZZ P w K mg base (Mf K av "new_shares" "Door.new_shares" bL ["self", "shares"]) 5 ["self", "shares"] aA
abbrev j9:=ZZ P w K mg base (MiF K av "Door.__init__" cF ["self", "shares"] "shares") 6 ["self", "shares"] a9
abbrev oQ:=ZZ P w K mg base (Fn K mg "_law_model" fE ["_law_parted"]) 1 ["_law_parted"] cx
abbrev mx:=ZZ P w K mg base (Fn K mg "_law_told" gU ["_law_door", "_law_way", "_law_group", "_law_many"]) 5 ["_law_door", "_law_way", "_law_group", "_law_many"] bQ
abbrev lU:=ZZ P w K mg base (Fn K mg "_law_let_in" eJ ["_law_model_here", "_law_group", "_law_many"]) 1 ["_law_model_here", "_law_group", "_law_many"] cf
abbrev kD:=ZZ P w K mg base (Fn K mg "_law_begun" fL ["_law_model_here"]) 1 ["_law_model_here"] bC
abbrev pO:=ZZ P w K mg base (Fn K mg "_law_other" fK ["_law_bag_here", "_law_model_here"]) 3 ["_law_bag_here", "_law_model_here"] cH
abbrev i5:=ZZ P w K mg base (Fn K mg "_law_reshared" cU ["_law_model_here", "_law_parted"]) 2 ["_law_model_here", "_law_parted"] bG
abbrev dE:=ZZ P w K mg base (Mf K av "is_waited_at" "Door.is_waited_at" bx ["self"]) 1 ["self"] aF
abbrev iM:=ZZ P w K mg base (Mf K av "owner" "Door.owner" cY ["self"]) 1 ["self"] bE
abbrev lb:=ZZ P w K mg base (Mf K av "use" "Door.use" eK ["self"]) 2 ["self"] cc
abbrev tQ:=ZZ P w K mg base (Fn K mg "_law_used" gQ ["_law_door", "_law_model_here"]) 3 ["_law_door", "_law_model_here"] cX
abbrev su:=ZZ P w K mg base (Fn K mg "_law_deed" hJ ["_law_bag_here", "_law_door", "_law_model_here", "_law_names"]) 6 ["_law_bag_here", "_law_door", "_law_model_here", "_law_names"] cT
abbrev fN:=ZZ P w K mg base (Fn K mg "_law_waits_right" bZ ["_law_door", "_law_model_here", "_law_names"]) 6 ["_law_door", "_law_model_here", "_law_names"] aT
end
section
variable {P:Program}{w:World}{K:PySem.W.Frag}{mg:Str->Option Value}{base:Heap}
theorem agh:(["_law_cell"]:List Str).Nodup:=by decide +kernel
theorem zg:aG vd ["_law_script"] (ai kz):=⟨rfl,rfl,rfl,by decide +kernel,rfl,by decide +kernel,by decide +kernel⟩
theorem zD {f:Addr}{fd:FuncData}(E:Env K mg)(F:Fn K mg "_law_bag" kz ["_law_script"] f fd) :
  bV P w K mg base CX0 1 f fd ["_law_script"] (de K dU):=by
 refine bT (t:=vV) F.fn zg v9 (λ cdv A outer s H E' hr=>?_) t9
 refine Jd.h ?_
 exact Q.aq (Q.aD (Q.d6 (Q.pac (Q.ak) (Q.pac (Q.ak) (Q.pac (Q.ak) (Q.pac (Q.mN rfl (qb (own:=(["_law_cell"]:List Str)) (fr:=[]) rfl) (Q.aY (Q.dX (Q.dv 0) (Q.dt) (Q.dj (Q.ak)))) (λ _ _ _ _ _ _=>Q.aB (i:=0) agh rfl (Or.inl rfl)) (λ _ _ _ _ _ _=>Q.cq) (λ _ _ _ _ _ _=>Q.pcB yD adY rfl E.b_abs aeR (Q.pac (Q.dv 0) (Q.ag)))) (Q.ag)))))))
theorem eQ:aG si ["_law_bag_here", "_law_many"] (ai gP):=⟨rfl,rfl,rfl,by decide +kernel,rfl,by decide +kernel,by decide +kernel⟩
theorem xh {f:Addr}{fd:FuncData}(E:Env K mg)(F:Fn K mg "_law_take" gP ["_law_bag_here", "_law_many"] f fd) :
  bV P w K mg base CX0 1 f fd ["_law_bag_here", "_law_many"] (de K ax):=by
 refine bT (t:=tK) F.fn eQ uL (λ cdv A outer s H E' hr=>?_) qz
 refine Jd.h ?_
 exact Q.ae (Q.bD (Q.bo (aav hr.h) adn (Q.bM aU aS (Q.dv 0) (Q.ak)) (Q.ak))
   (Q.ae (Q.aC (i:=2) eQ.nd rfl (Or.inl rfl) (Q.ak)) <|
   Q.ae (Q.bD (Q.bo acx yl (Q.bM aU aS (Q.dv 0) (Q.ak)) (Q.pcB fU lY rfl E.b_len lO (Q.pac (Q.bM aU aS (Q.dv 0) (Q.ak)) (Q.ag))))
    (Q.aq (Q.aC (i:=2) eQ.nd rfl (Or.inl rfl) (Q.bM aU aS (Q.bM aU aS (Q.dv 0) (Q.ak)) (Q.bM aU aS (Q.dv 0) (Q.ak)))))
    (Q.aH)) <|
   Q.ae (Q.mR (Q.dv 0) (Q.ak) (Q.ak) tF) <|
   Q.ae (Q.bD (Q.bo adH aaN (Q.dv 2) (Q.ak))
    (Q.aq (Q.gv (Q.dv 2) (Q.iF (Q.dv 0) (Q.ak))))
    (Q.aH)) <|
   Q.aq (Q.gv (Q.bB gj dZ (Q.bB cz bJ (Q.bB cz bJ (Q.bB gW e9 (Q.bM aU aS (Q.dv 0) (Q.ak)) (Q.ak)) (Q.bB gj dZ (Q.dv 2) (Q.ak))) (Q.bB gW e9 (Q.ak) (Q.bM aU aS (Q.dv 0) (Q.ak)))) (Q.ak)) (Q.iF (Q.dv 0) (Q.ak))))
   (Q.aH)) <|
  Q.ae (Q.bD (Q.bo yX tV (Q.bM aU aS (Q.dv 0) (Q.ak)) (Q.ak))
   (Q.ae (Q.aC (i:=3) eQ.nd rfl (Or.inl rfl) (Q.bB gj dZ (Q.bM aU aS (Q.dv 0) (Q.ak)) (Q.dv 1))) <|
   Q.ae (Q.gv (Q.bB ni mF (Q.bM aU aS (Q.dv 0) (Q.ak)) (Q.dv 1)) (Q.iF (Q.dv 0) (Q.ak))) <|
   Q.aq (Q.aD (Q.dv 3)))
   (Q.aH)) <|
  Q.ae (Q.aC (i:=4) eQ.nd rfl (Or.inl rfl) (Q.bB gj dZ (Q.bB gW e9 (Q.bB cz bJ (Q.bM aU aS (Q.dv 0) (Q.ak)) (Q.ak)) (Q.ak)) (Q.ak))) <|
  Q.ae (Q.aC (i:=5) eQ.nd rfl (Or.inl rfl) (Q.bB gj dZ (Q.bB gW e9 (Q.bB gj dZ (Q.bB gW e9 (Q.dv 4) (Q.dv 4)) (Q.ak)) (Q.ak)) (Q.ak))) <|
  Q.ae (Q.bD (Q.bo yX tV (Q.dv 1) (Q.ak))
   (Q.aq (Q.aD (Q.bB gj dZ (Q.bB cz bJ (Q.bB gW e9 (Q.dv 5) (Q.ak)) (Q.dv 4)) (Q.dv 1))))
   (Q.aH)) <|
  Q.aq (Q.aD (Q.bB gj dZ (Q.bB ni mF (Q.dv 5) (Q.ak)) (Q.dv 1)))
theorem agi:(["_law_k", "_law_letters", "_law_bag_here"]:List Str).Nodup:=by decide +kernel
theorem bA:aG l5 ["_law_bag_here"] (ai eP):=⟨rfl,rfl,rfl,by decide +kernel,rfl,by decide +kernel,by decide +kernel⟩
theorem qi {f:Addr}{fd:FuncData}(E:Env K mg)(F:Fn K mg "_law_shares" eP ["_law_bag_here"] f fd)(z_l_take:gX P w K mg base) :
  bV P w K mg base CX0 2 f fd ["_law_bag_here"] (de K aZ):=by
 obtain ⟨_,_,G_l_take,O_l_take⟩:=z_l_take
 refine bT (t:=lZ ax) F.fn bA oF (λ cdv A outer s H E' hr=>?_) nG
 refine Jd.h ?_
 exact Q.ae (Q.aC (i:=1) bA.nd rfl (Or.inr rfl) (Q.aR)) <|
  Q.ae (Q.aC (i:=2) bA.nd rfl (Or.inl rfl) (Q.qR (Q.aR) (Q.mN rfl (qb (own:=(["_law_k"]:List Str)) (fr:=[1,0]) rfl) (Q.cN rfl E.b_range (Q.pac (Q.pcF O_l_take (hr.mono (by decide)) rfl G_l_take.mg G_l_take.fn.kp G_l_take.bd (Q.pac (Q.dv 0) (Q.pac (Q.ak) (Q.ag)))) (Q.ag))) (λ _ _ _ _ _ _=>Q.aB (i:=0) agi rfl (Or.inl rfl)) (λ _ _ _ _ _ _=>Q.cq) (λ _ _ _ _ _ _=>Q.bM aU aS (Q.dv 1) (Q.pcF O_l_take (hr.mono (by decide)) rfl G_l_take.mg G_l_take.fn.kp G_l_take.bd (Q.pac (Q.dv 2) (Q.pac (Q.ak) (Q.ag)))))))) <|
  Q.ae (Q.aC (i:=3) bA.nd rfl (Or.inl rfl) (Q.pcF O_l_take (hr.mono (by decide)) rfl G_l_take.mg G_l_take.fn.kp G_l_take.bd (Q.pac (Q.dv 0) (Q.pac (Q.ak) (Q.ag))))) <|
  Q.ae (Q.aC (i:=4) bA.nd rfl (Or.inl rfl) (Q.bM aU aS (Q.gK (Q.pac (Q.ak) (Q.pac (Q.ak) (Q.pac (Q.ak) (Q.pac (Q.ak) (Q.pac (Q.ak) (Q.pac (Q.ak) (Q.ag)))))))) (Q.pcF O_l_take (hr.mono (by decide)) rfl G_l_take.mg G_l_take.fn.kp G_l_take.bd (Q.pac (Q.dv 0) (Q.pac (Q.ak) (Q.ag)))))) <|
  Q.ae (Q.aC (i:=5) bA.nd rfl (Or.inl rfl) (Q.pcF O_l_take (hr.mono (by decide)) rfl G_l_take.mg G_l_take.fn.kp G_l_take.bd (Q.pac (Q.dv 0) (Q.pac (Q.bB cz bJ (Q.pcB fU lY rfl E.b_len lO (Q.pac (Q.dv 2) (Q.ag))) (Q.ak)) (Q.ag))))) <|
  Q.ae (Q.aC (i:=6) bA.nd rfl (Or.inl rfl) (Q.d6 (Q.ag))) <|
  Q.ae (Q.d5 PassesOwn.never rfl (Q.cN rfl E.b_range (Q.pac (Q.bB cz bJ (Q.ak) (Q.pcF O_l_take (hr.mono (by decide)) rfl G_l_take.mg G_l_take.fn.kp G_l_take.bd (Q.pac (Q.dv 0) (Q.pac (Q.ak) (Q.ag))))) (Q.ag))) (Q.aB (i:=7) bA.nd rfl (Or.inl rfl))
   (Q.ae (Q.aC (i:=8) bA.nd rfl (Or.inl rfl) (Q.bM aU aS (Q.dv 1) (Q.bB gj dZ (Q.bB cz bJ (Q.dv 3) (Q.bB gW e9 (Q.dv 4) (Q.dv 7))) (Q.ak)))) <|
   Q.ae (Q.aC (i:=9) bA.nd rfl (Or.inl rfl) (Q.bB cz bJ (Q.bB cz bJ (Q.dX (Q.dv 2) (Q.dt) (Q.dj (Q.dv 5))) (Q.dv 8)) (Q.dX (Q.dv 2) (Q.dj (Q.dv 5)) (Q.dt)))) <|
   Q.ae (Q.aC (i:=10) bA.nd rfl (Or.inl rfl) (Q.gK (Q.pac (Q.bB cz bJ (Q.ak) (Q.pcF O_l_take (hr.mono (by decide)) rfl G_l_take.mg G_l_take.fn.kp G_l_take.bd (Q.pac (Q.dv 0) (Q.pac (Q.ak) (Q.ag))))) (Q.pac (Q.ak) (Q.pac (Q.ak) (Q.pac (Q.bB cz bJ (Q.ak) (Q.pcF O_l_take (hr.mono (by decide)) rfl G_l_take.mg G_l_take.fn.kp G_l_take.bd (Q.pac (Q.dv 0) (Q.pac (Q.ak) (Q.ag))))) (Q.ag))))))) <|
   Q.aq (Q.cw (Q.hG (Q.dv 6) (Q.er (Q.pac (Q.dv 9) (Q.pac (Q.bM aU aS (Q.dv 10) (Q.pcF O_l_take (hr.mono (by decide)) rfl G_l_take.mg G_l_take.fn.kp G_l_take.bd (Q.pac (Q.dv 0) (Q.pac (Q.ak) (Q.ag))))) (Q.ag)))))))) <|
  Q.aq (Q.aD (Q.eW (Q.dv 6)))
theorem af7:(["sign"]:List Str).Nodup:=by decide +kernel
theorem uR:aG oB ["thing"] (ai eD):=⟨rfl,rfl,rfl,by decide +kernel,rfl,by decide +kernel,by decide +kernel⟩
theorem uH {f:Addr}{fd:FuncData}(E:Env K mg)(F:Fn K mg "is_word" eD ["thing"] f fd) :
  bV P w K mg base CX0 1 f fd ["thing"] (de K bu):=by
 refine bT (t:=oy) F.fn uR q0 (λ cdv A outer s H E' hr=>?_) o7
 refine Jd.h ?_
 exact Q.ae (Q.bD (Q.pW (Q.i4 (Q.cO (Q.cR (Q.pcB dF gH rfl E.b_isinstance bF (Q.pac (Q.dv 0) (Q.pac (Q.fk rfl E.b_str acX) (Q.ag)))))) (Q.gC (Q.cO (Q.kB jG gG jG gG (Q.ak) (Q.pcB fU lY rfl E.b_len lO (Q.pac (Q.dv 0) (Q.ag))) (Q.fY rfl (E.c_LONGEST_WORD).choose_spec))))))
   (Q.aq (Q.aD (Q.jv)))
   (Q.aH)) <|
  Q.aq (Q.aD (Q.pcB (xQ rfl) adx rfl E.b_all ad3 (Q.pac (Q.mN rfl (qb (own:=(["sign"]:List Str)) (fr:=[]) rfl) (Q.aY (Q.dv 0)) (λ _ _ _ _ _ _=>Q.aB (i:=0) af7 rfl (Or.inl rfl)) (λ _ _ _ _ _ _=>Q.cq) (λ _ _ _ _ _ _=>Q.jh jG gG jG gG (Q.aR) (Q.dv 0) (Q.aR))) (Q.ag))))
theorem qF:aG lV ["thing"] (ai ef):=⟨rfl,rfl,rfl,by decide +kernel,rfl,by decide +kernel,by decide +kernel⟩
theorem qJ {f:Addr}{fd:FuncData}(E:Env K mg)(F:Fn K mg "is_whole" ef ["thing"] f fd) :
  bV P w K mg base CX0 1 f fd ["thing"] (de K cn):=by
 refine bT (t:=lQ) F.fn qF pT (λ cdv A outer s H E' hr=>?_) nQ
 refine Jd.h ?_
 exact Q.aq (Q.aD (Q.iL (Q.pcB dF gH rfl E.b_isinstance bF (Q.pac (Q.dv 0) (Q.pac (Q.fk rfl E.b_int aej) (Q.ag)))) (Q.lK (Q.tP (Q.pcB dF gH rfl E.b_isinstance bF (Q.pac (Q.dv 0) (Q.pac (Q.fk rfl E.b_bool rj) (Q.ag))))))))
theorem ow:aG jX ["thing", "low", "high"] (ai dI):=⟨rfl,rfl,rfl,by decide +kernel,rfl,by decide +kernel,by decide +kernel⟩
theorem o6 {f:Addr}{fd:FuncData}(E:Env K mg)(F:Fn K mg "is_within" dI ["thing", "low", "high"] f fd)(z_is_whole:lD P w K mg base) :
  bV P w K mg base CX0 2 f fd ["thing", "low", "high"] (de K bO):=by
 obtain ⟨_,_,G_is_whole,O_is_whole⟩:=z_is_whole
 refine bT (t:=j6 cn) F.fn ow nP (λ cdv A outer s H E' hr=>?_) kN
 refine Jd.h ?_
 exact Q.aq (Q.aD (Q.iL (Q.pcF O_is_whole (hr.mono (by decide)) rfl G_is_whole.mg G_is_whole.fn.kp G_is_whole.bd (Q.pac (Q.dv 0) (Q.ag))) (Q.lK (Q.jh jG gG jG gG (Q.dv 1) (Q.dv 0) (Q.dv 2)))))
theorem js:aG gh ["row"] (ai cD):=⟨rfl,rfl,rfl,by decide +kernel,rfl,by decide +kernel,by decide +kernel⟩
theorem ki {f:Addr}{fd:FuncData}(E:Env K mg)(F:Fn K mg "is_share_row" cD ["row"] f fd)
  {f_is_word:Addr}{fd_is_word:FuncData}(G_is_word:Fn K mg "is_word" eD ["thing"] f_is_word fd_is_word)(O_is_word:bV P w K mg base CX0 1 f_is_word fd_is_word ["thing"] (de K bu))(z_is_within:jP P w K mg base) :
  bV P w K mg base CX0 3 f fd ["row"] (de K bc):=by
 obtain ⟨_,_,G_is_within,O_is_within⟩:=z_is_within
 refine bT (t:=gn bu bO) F.fn js i7 (λ cdv A outer s H E' hr=>?_) iw
 refine Jd.h ?_
 exact Q.aq (Q.aD (Q.iL (Q.pcB dF gH rfl E.b_isinstance bF (Q.pac (Q.dv 0) (Q.pac (Q.fk rfl E.b_tuple zc) (Q.ag)))) (Q.iL (Q.iX (gO hr.h) fm (Q.pcB fU lY rfl E.b_len lO (Q.pac (Q.dv 0) (Q.ag))) (Q.ak)) (Q.iL (Q.pcF O_is_word (hr.mono (by decide)) rfl G_is_word.mg G_is_word.fn.kp G_is_word.bd (Q.pac (Q.bM aU aS (Q.dv 0) (Q.ak)) (Q.ag))) (Q.lK (Q.pcF O_is_within (hr.mono (by decide)) rfl G_is_within.mg G_is_within.fn.kp G_is_within.bd (Q.pac (Q.bM aU aS (Q.dv 0) (Q.ak)) (Q.pac (Q.ak) (Q.pac (Q.fY rfl (E.c_MOST_SHARE).choose_spec) (Q.ag))))))))))
theorem agx:(["ahead"]:List Str).Nodup:=by decide +kernel
theorem cZ:aG fB ["shares"] (ai bW):=⟨rfl,rfl,rfl,by decide +kernel,rfl,by decide +kernel,by decide +kernel⟩
theorem jb {f:Addr}{fd:FuncData}(E:Env K mg)(F:Fn K mg "refuse_shares" bW ["shares"] f fd)(z_is_share_row:gk P w K mg base) :
  bV P w K mg base CX0 4 f fd ["shares"] (de K aV):=by
 obtain ⟨_,_,G_is_share_row,O_is_share_row⟩:=z_is_share_row
 refine bT (t:=fC bc) F.fn cZ iq (λ cdv A outer s H E' hr=>?_) hX
 refine Jd.h ?_
 exact Q.ae (Q.bD (Q.pW (Q.i4 (Q.cO (Q.cR (Q.pcB dF gH rfl E.b_isinstance bF (Q.pac (Q.dv 0) (Q.pac (Q.fk rfl E.b_list iu) (Q.ag)))))) (Q.gC (Q.cO (Q.g8 (Q.dv 0))))))
   (Q.aq (Q.gJ))
   (Q.aH)) <|
  Q.aq (Q.d5 PassesOwn.never rfl (Q.nj rfl E.b_enumerate (Q.pac (Q.dv 0) (Q.ag))) (Q.cS rfl (Q.aI (Q.aB (i:=1) cZ.nd rfl (Or.inl rfl)) (Q.aI (Q.aB (i:=2) cZ.nd rfl (Or.inl rfl)) (Q.cu))))
   (Q.aq (Q.bD (Q.pW (Q.i4 (Q.bo adH aaN (Q.dv 1) (Q.fY rfl (E.c_MOST_GROUPS).choose_spec)) (Q.i4 (Q.cO (Q.cR (Q.pcF O_is_share_row (hr.mono (by decide)) rfl G_is_share_row.mg G_is_share_row.fn.kp G_is_share_row.bd (Q.pac (Q.dv 2) (Q.ag))))) (Q.gC (Q.bo vM (nD false) (Q.bM aU aS (Q.dv 2) (Q.ak)) (Q.mN rfl (qb (own:=(["ahead"]:List Str)) (fr:=[]) rfl) (Q.aY (Q.dX (Q.dv 0) (Q.dt) (Q.dj (Q.dv 1)))) (λ _ _ _ _ _ _=>Q.aB (i:=0) agx rfl (Or.inl rfl)) (λ _ _ _ _ _ _=>Q.cq) (λ _ _ _ _ _ _=>Q.bM aU aS (Q.dv 0) (Q.ak))))))))
    (Q.aq (Q.gJ))
    (Q.aH))))
theorem vi:aG rZ ["unit", "whole", "share"] (ai ig):=⟨rfl,rfl,rfl,by decide +kernel,rfl,by decide +kernel,by decide +kernel⟩
theorem wV {f:Addr}{fd:FuncData}(E:Env K mg)(F:Fn K mg "due_at" ig ["unit", "whole", "share"] f fd) :
  bV P w K mg base CX0 1 f fd ["unit", "whole", "share"] (de K cV):=by
 refine bT (t:=sY) F.fn vi uv (λ cdv A outer s H E' hr=>?_) qY
 refine Jd.h ?_
 exact Q.aq (Q.aD (Q.zl aao vD (Q.bB ni mF (Q.bB gW e9 (Q.zl aao vD (Q.bB cz bJ (Q.dv 0) (Q.ak))) (Q.dv 1)) (Q.dv 2))))
theorem ael:(["group", "share"]:List Str).Nodup:=by decide +kernel
theorem aem:(["group", "share"]:List Str).Nodup:=by decide +kernel
theorem ae6:(["group", "share", "owned", "whole", "slot"]:List Str).Nodup:=by decide +kernel
theorem bY:aG lL ["shares"] (ai cM):=⟨rfl,rfl,rfl,by decide +kernel,rfl,by decide +kernel,by decide +kernel⟩
theorem qL {f:Addr}{fd:FuncData}(E:Env K mg)(F:Fn K mg "round_of" cM ["shares"] f fd)(hcd:fd.code=.ref cI)(z_due_at:tI P w K mg base) :
  bV P w K mg base CX0 4 f fd ["shares"] (de K cj):=by
 obtain ⟨_,_,G_due_at,O_due_at⟩:=z_due_at
 refine abD (t:=lW cV) F.fn hcd bY oq (λ A outer s H E' hr=>?_) mP
 refine Jd.h ?_
 exact Q.ae (Q.aC (i:=1) bY.nd rfl (Or.inr rfl) (Q.pcB (vF rfl) ae0 rfl E.b_sum aag (Q.pac (Q.mN rfl (qb (own:=(["group", "share"]:List Str)) (fr:=[]) rfl) (Q.aY (Q.dv 0)) (λ _ _ _ _ _ _=>Q.cS rfl (Q.aI (Q.aB (i:=0) ael rfl (Or.inl rfl)) (Q.aI (Q.aB (i:=1) ael rfl (Or.inl rfl)) (Q.cu)))) (λ _ _ _ _ _ _=>Q.cq) (λ _ _ _ _ _ _=>Q.dv 1)) (Q.ag)))) <|
  Q.ae (Q.aC (i:=2) bY.nd rfl (Or.inr rfl) (Q.aeH rfl (qb (own:=(["group", "share"]:List Str)) (fr:=[]) rfl) (Q.aY (Q.dv 0)) (λ _ _ _ _ _ _=>Q.cS rfl (Q.aI (Q.aB (i:=0) aem rfl (Or.inl rfl)) (Q.aI (Q.aB (i:=1) aem rfl (Or.inl rfl)) (Q.cu)))) (λ _ _ _ _ _ _=>Q.cq) (λ _ _ _ _ _ _=>Q.dv 0) (λ _ _ _ _ _ _=>Q.ak))) <|
  Q.ae (Q.aC (i:=3) bY.nd rfl (Or.inl rfl) (Q.d6 (Q.ag))) <|
  Q.ae (Q.d5 PassesOwn.never rfl (Q.cN rfl E.b_range (Q.pac (Q.dv 1) (Q.ag))) (Q.aB (i:=4) bY.nd rfl (Or.inr rfl))
   (Q.ae (Q.hV (i:=5) bY.nd rfl (Or.inl rfl) rfl (qb (own:=(["group", "share"]:List Str)) (fr:=[2,1,4]) rfl) (Q.aY (Q.dv 0)) (λ _ _ _ _ _ _=>Q.cS rfl (Q.aI (Q.aB (i:=0) ae6 rfl (Or.inl rfl)) (Q.aI (Q.aB (i:=1) ae6 rfl (Or.inl rfl)) (Q.cu)))) (λ _ _ _ _ _ _=>Q.fo (Q.bo jG gG (Q.bB ni mF (Q.bB gW e9 (Q.bp (bS hr) (Q.dv 2) (Q.dv 0)) (Q.dv 3)) (Q.dv 1)) (Q.dv 4))) (λ _ _ _ _ _ _=>Q.er (Q.pac (Q.dv 0) (Q.pac (Q.dv 1) (Q.ag))))) <|
   Q.ae (Q.gv (Q.abR (k:=1) (q:=eE) (hr.mono (by decide)) rfl rfl E.b_min (afN (x := "each") (fr:=[1,2]) rfl) rfl E.h_round_of rfl (λ _ _ _ _ _=>rfl) (Q.dv 5) (λ _ _ _ _ _ _ hr=>Q.pcF O_due_at (hr.mono (by decide)) rfl G_due_at.mg G_due_at.fn.kp G_due_at.bd (Q.pac (Q.bp (bS hr) (Q.dv 2) (Q.bM aU aS (Q.dv 0) (Q.ak))) (Q.pac (Q.dv 1) (Q.pac (Q.bM aU aS (Q.dv 0) (Q.ak)) (Q.ag)))))) (Q.cS rfl (Q.aI (Q.aB (i:=6) bY.nd rfl (Or.inl rfl)) (Q.aI (Q.aB (i:=7) bY.nd rfl (Or.inl rfl)) (Q.cu))))) <|
   Q.ae (Q.mz (bS hr) (Q.dv 2) (Q.dv 6) (Q.ak) tF) <|
   Q.aq (Q.cw (Q.hG (Q.dv 3) (Q.dv 6))))) <|
  Q.aq (Q.aD (Q.dv 3))
theorem nc:aG iI ["self"] (ai cW):=⟨rfl,rfl,rfl,by decide +kernel,rfl,by decide +kernel,by decide +kernel⟩
theorem my {f:Addr}{fd:FuncData}(E:Env K mg)(F:Mf K av "begin" "Door.begin" cW ["self"] f fd) :
  bV P w K mg base CX0 1 f fd ["self"] (de K aO):=by
 refine bT (t:=iS) F.fn nc kP (λ cdv A outer s H E' hr=>?_) jN
 refine Jd.h ?_
 exact Q.aq (Q.eR E.k_Door E.n_Door_next_slot (Q.dv 0) (Q.ak))
theorem ae2:(["group", "share", "self"]:List Str).Nodup:=by decide +kernel
theorem gR:aG eF ["self", "shares"] (ai bL):=⟨rfl,rfl,rfl,by decide +kernel,rfl,by decide +kernel,by decide +kernel⟩
theorem ij {f:Addr}{fd:FuncData}(E:Env K mg)(F:Mf K av "new_shares" "Door.new_shares" bL ["self", "shares"] f fd)(z_refuse_shares:fF P w K mg base)(z_round_of:ly P w K mg base)(z_Door_begin:fR P w K mg base) :
  bV P w K mg base CX0 5 f fd ["self", "shares"] (de K aA):=by
 obtain ⟨_,_,G_refuse_shares,O_refuse_shares⟩:=z_refuse_shares
 obtain ⟨_,_,G_round_of,O_round_of⟩:=z_round_of
 obtain ⟨_,_,G_Door_begin,O_Door_begin⟩:=z_Door_begin
 refine bT (t:=eA aV cj aO) F.fn gR gy (λ cdv A outer s H E' hr=>?_) gc
 refine Jd.h ?_
 exact Q.ae (Q.cw (Q.pcF O_refuse_shares (hr.mono (by decide)) rfl G_refuse_shares.mg G_refuse_shares.fn.kp G_refuse_shares.bd (Q.pac (Q.dv 1) (Q.ag)))) <|
  Q.ae (Q.eR E.k_Door E.n_Door_asks_waiting (Q.dv 0) (Q.aeH rfl (qb (own:=(["group", "share"]:List Str)) (fr:=[0]) rfl) (Q.aY (Q.dv 1)) (λ _ _ _ _ _ _=>Q.cS rfl (Q.aI (Q.aB (i:=0) ae2 rfl (Or.inl rfl)) (Q.aI (Q.aB (i:=1) ae2 rfl (Or.inl rfl)) (Q.cu)))) (λ _ _ _ _ _ _=>Q.cq) (λ _ _ _ _ _ _=>Q.dv 0) (λ _ _ _ _ _ _=>Q.ka (bS hr) (Q.dW E.k_Door E.n_Door_asks_waiting (Q.dv 2)) (Q.dv 0) (Q.ak)))) <|
  Q.ae (Q.eR E.k_Door E.n_Door_owner_round (Q.dv 0) (Q.pcF O_round_of (hr.mono (by decide)) rfl G_round_of.mg G_round_of.fn.kp G_round_of.bd (Q.pac (Q.dv 1) (Q.ag)))) <|
  Q.aq (Q.cw (Q.fj (Q.dv 0) E.k_Door G_Door_begin.me O_Door_begin (hr.mono (by decide)) G_Door_begin.bd))
theorem pw:aG jC ["self", "shares"] (ai cF):=⟨rfl,rfl,rfl,by decide +kernel,rfl,by decide +kernel,by decide +kernel⟩
theorem pQ {f:Addr}{fd:FuncData}(E:Env K mg)(F:MiF K av "Door.__init__" cF ["self", "shares"] "shares" f fd)(z_Door_new_shares:cQ P w K mg base) :
  bV P w K mg base CX0 6 f fd ["self", "shares"] (de K a9):=by
 obtain ⟨_,_,G_Door_new_shares,O_Door_new_shares⟩:=z_Door_new_shares
 refine abC (t:=jr aA) F.fn pw nV (λ cdv A outer s H E' hr=>?_) kU
 refine Jd.h ?_
 exact Q.ae (Q.eR E.k_Door E.n_Door_asks_waiting (Q.dv 0) (Q.fO)) <|
  Q.ae (Q.eR E.k_Door E.n_Door_owner_round (Q.dv 0) (Q.d6 (Q.ag))) <|
  Q.ae (Q.eR E.k_Door E.n_Door_next_slot (Q.dv 0) (Q.ak)) <|
  Q.ae (Q.eR E.k_Door E.n_Door_number_led (Q.dv 0) (Q.fJ)) <|
  Q.aq (Q.bD (Q.bo aa9 yM (Q.dv 1) (Q.fJ))
   (Q.aq (Q.cw (Q.ng (Q.dv 0) E.k_Door G_Door_new_shares.me O_Door_new_shares (hr.mono (by decide)) G_Door_new_shares.bd (Q.pac (Q.dv 1) (Q.ag)))))
   (Q.aH))
theorem age:(["_law_row"]:List Str).Nodup:=by decide +kernel
theorem fW:aG oG ["_law_parted"] (ai fE):=⟨rfl,rfl,rfl,by decide +kernel,rfl,by decide +kernel,by decide +kernel⟩
theorem uF {f:Addr}{fd:FuncData}(E:Env K mg)(F:Fn K mg "_law_model" fE ["_law_parted"] f fd) :
  bV P w K mg base CX0 1 f fd ["_law_parted"] (de K cx):=by
 refine bT (t:=pP) F.fn fW rm (λ cdv A outer s H E' hr=>?_) pM
 refine Jd.h ?_
 exact Q.ae (Q.aC (i:=1) fW.nd rfl (Or.inl rfl) (Q.jd (trs:=[(dC (.d (.str "shares")),jn (dCB ff (aj (ar 0) (aP)))),(dC (.d (.str "waits")),iy),(dC (.d (.str "had")),u6 (cK (ar 0)) (gN 0) (qt) (dC (.d (.int 0))) 1 []),(dC (.d (.str "slot")),dC (.d (.int 0))),(dC (.d (.str "last")),dC (.d (.int 0)))]) (Q.dh (Q.aR) (Q.eW (Q.pcT dS gL rfl E.b_list iu (Q.pac (Q.dv 0) (Q.ag)))) (Q.dh (Q.aR) (Q.fO) (Q.dh (Q.aR) (Q.vB rfl (qb (own:=(["_law_row"]:List Str)) (fr:=[]) rfl) (Q.aY (Q.dv 0)) (λ _ _ _ _ _ _=>Q.aB (i:=0) age rfl (Or.inl rfl)) (λ _ _ _ _ _ _=>Q.cq) (λ _ _ _ _ _ _=>Q.ak)) (Q.dh (Q.aR) (Q.ak) (Q.dh (Q.aR) (Q.ak) (Q.nE)))))))) <|
  Q.ae (Q.d5 PassesOwn.never rfl (Q.aY (Q.dv 0)) (Q.cS rfl (Q.aI (Q.aB (i:=2) fW.nd rfl (Or.inl rfl)) (Q.aI (Q.aB (i:=3) fW.nd rfl (Or.inl rfl)) (Q.cu))))
   (Q.aq (Q.dR (bS hr) (Q.bp (bS hr) (Q.dv 1) (Q.aR)) (Q.dv 2) (Q.ak)))) <|
  Q.aq (Q.aD (Q.dv 1))
theorem kl:aG kQ ["self", "name"] (ai bI):=⟨rfl,rfl,rfl,by decide +kernel,rfl,by decide +kernel,by decide +kernel⟩
theorem kE {f:Addr}{fd:FuncData}(E:Env K mg)(F:Xi K aw "Unknown.__init__" bI ["self", "name"] f fd):bV P w K mg base CX0 1 f fd ["self", "name"] (xI aw ["name"]):=afM F.fn kl F.xm.xc E.n_Unknown_name rfl (λ _=>rfl) rfl rfl
theorem nW:aG i6 ["self", "group"] (ai bN):=⟨rfl,rfl,rfl,by decide +kernel,rfl,by decide +kernel,by decide +kernel⟩
theorem mD {f:Addr}{fd:FuncData}(E:Env K mg)(F:Mf K av "waits" "Door.waits" bN ["self", "group"] f fd)
  {f_is_word:Addr}{fd_is_word:FuncData}(G_is_word:Fn K mg "is_word" eD ["thing"] f_is_word fd_is_word)(O_is_word:bV P w K mg base CX0 1 f_is_word fd_is_word ["thing"] (de K bu))
  {f_Unknown_init:Addr}{fd_Unknown_init:FuncData}(G_Unknown_init:Xi K aw "Unknown.__init__" bI ["self", "name"] f_Unknown_init fd_Unknown_init)(O_Unknown_init:bV P w K mg base CX0 1 f_Unknown_init fd_Unknown_init ["self", "name"] (xI aw ["name"])) :
  bV P w K mg base (CXE P w) 3 f fd ["self", "group"] (pU K aM):=by
 refine ya (t:=λ Ex=>iJ Ex bu) F.fn nW kL (λ cdv A outer s H E' Ex hr hE hP=>?_) jo
 refine Jd.h ?_
 exact Q.ae (Q.bD (Q.pW (Q.i4 (Q.cO (Q.cR (Q.pcF O_is_word (hr.mono (by decide)) rfl G_is_word.mg G_is_word.fn.kp G_is_word.bd (Q.pac (Q.dv 1) (Q.ag))))) (Q.gC (Q.fX (bS hr) (Q.dv 1) (Q.dW E.k_Door E.n_Door_asks_waiting (Q.dv 0))))))
   (Q.aq (Q.jt hE G_Unknown_init.xm O_Unknown_init (hr.mono (by decide)) rfl E.m_Unknown G_Unknown_init.bd (Q.pac (Q.dv 1) (Q.ag))))
   (Q.aH)) <|
  Q.aq (Q.aD (Q.bp (bS hr) (Q.dW E.k_Door E.n_Door_asks_waiting (Q.dv 0)) (Q.dv 1)))
theorem kF:aG lp ["self", "group", "many"] (ai cL):=⟨rfl,rfl,rfl,by decide +kernel,rfl,by decide +kernel,by decide +kernel⟩
theorem qP {f:Addr}{fd:FuncData}(E:Env K mg)(F:Mf K av "ask" "Door.ask" cL ["self", "group", "many"] f fd)
  {f_Door_waits:Addr}{fd_Door_waits:FuncData}(G_Door_waits:Mf K av "waits" "Door.waits" bN ["self", "group"] f_Door_waits fd_Door_waits)(O_Door_waits:bV P w K mg base (CXE P w) 3 f_Door_waits fd_Door_waits ["self", "group"] (pU K aM)) :
  bV P w K mg base (CXE P w) 4 f fd ["self", "group", "many"] (pU K ck):=by
 refine ya (t:=λ Ex=>lS Ex aM) F.fn kF pV (λ cdv A outer s H E' Ex hr hE hP=>?_) nM
 refine Jd.h ?_
 exact Q.ae (Q.aC (i:=3) kF.nd rfl (Or.inl rfl) (Q.pcB (yd rfl) aby rfl E.b_max ae3 (Q.pac (Q.pcB (pz rfl) xF rfl E.b_min xW (Q.pac (Q.dv 2) (Q.pac (Q.bB wJ qN (Q.fY rfl (E.c_MOST_WAITING).choose_spec) (Q.pmX hE (Q.dv 0) E.k_Door G_Door_waits.me O_Door_waits (hr.mono (by decide)) G_Door_waits.bd (Q.pac (Q.dv 1) (Q.ag)))) (Q.ag)))) (Q.pac (Q.ak) (Q.ag))))) <|
  Q.ae (Q.mz (bS hr) (Q.dW E.k_Door E.n_Door_asks_waiting (Q.dv 0)) (Q.dv 1) (Q.dv 3) tF) <|
  Q.aq (Q.aD (Q.dv 3))
theorem pf:aG sJ ["_law_door", "_law_way", "_law_group", "_law_many"] (ai gU):=⟨rfl,rfl,rfl,by decide +kernel,rfl,by decide +kernel,by decide +kernel⟩
theorem yk {f:Addr}{fd:FuncData}(E:Env K mg)(F:Fn K mg "_law_told" gU ["_law_door", "_law_way", "_law_group", "_law_many"] f fd)
  {f_Door_ask:Addr}{fd_Door_ask:FuncData}(G_Door_ask:Mf K av "ask" "Door.ask" cL ["self", "group", "many"] f_Door_ask fd_Door_ask)(O_Door_ask:bV P w K mg base (CXE P w) 4 f_Door_ask fd_Door_ask ["self", "group", "many"] (pU K ck))
  {f_Door_waits:Addr}{fd_Door_waits:FuncData}(G_Door_waits:Mf K av "waits" "Door.waits" bN ["self", "group"] f_Door_waits fd_Door_waits)(O_Door_waits:bV P w K mg base (CXE P w) 3 f_Door_waits fd_Door_waits ["self", "group"] (pU K aM)) :
  bV P w K mg base CX0 5 f fd ["_law_door", "_law_way", "_law_group", "_law_many"] (de K bQ):=by
 refine bT (t:=sV ck aM) F.fn pf uS (λ cdv A outer s H E' hr=>?_) qC
 refine Jd.h ?_
 exact Q.ae (Q.qh rfl rfl (λ _ _ _ _ hE hP =>
   Q.ae (Q.bD (Q.bo (gO hr.h) fm (Q.dv 1) (Q.ak))
    (Q.aq (Q.aD (Q.er (Q.pac (Q.aR) (Q.pac (Q.pmX hE (Q.dv 0) E.k_Door G_Door_ask.me O_Door_ask (hr.mono (by decide)) G_Door_ask.bd (Q.pac (Q.dv 2) (Q.pac (Q.dv 3) (Q.ag)))) (Q.ag))))))
    (Q.aH)) <|
   Q.aq (Q.aD (Q.er (Q.pac (Q.aR) (Q.pac (Q.pmX hE (Q.dv 0) E.k_Door G_Door_waits.me O_Door_waits (hr.mono (by decide)) G_Door_waits.bd (Q.pac (Q.dv 2) (Q.ag))) (Q.ag)))))) (Q.abX (i:=4) rfl E.m_PlaceError (pX.cons E.e_Unknown_PlaceError (pX.nil)) pf.nd rfl rfl rfl (λ _ =>
   Q.aq (Q.bD (Q.pW (Q.mL (Q.cR (Q.abW E.b_isinstance (pX.cons ⟨E.x_Unknown,E.i_Unknown_Unknown⟩ (pX.nil)) rfl E.m_Unknown (Q.dv 4))) (Q.mL (Q.cR (Q.ab1 E.b_isinstance (pX.cons ⟨E.x_Unknown,E.i_Unknown_ValueError⟩ (pX.nil)) rfl E.b_ValueError nZ (Q.dv 4))) (Q.nA (Q.cO (Q.cR (Q.abz (cs:=[.ref jQ,.ref eI]) E.b_isinstance (pX.cons ⟨E.x_Unknown,E.i_Unknown_Known_BadShare⟩ (pX.nil)) (sZ rfl E.m_Known (sZ rfl E.m_BadShare (acb))) (Q.dv 4))))))))
     (Q.aq (Q.aD (Q.er (Q.pac (Q.aR) (Q.pac (Q.rO (aaB.cons ⟨E.x_Unknown,E.n_Unknown_name⟩ (aaB.nil)) (Q.dv 4)) (Q.ag))))))
     (Q.aH))) (Q.rN))) <|
  Q.aq (Q.aD (Q.er (Q.pac (Q.aR) (Q.pac (Q.fJ) (Q.ag)))))
theorem jI:aG k8 ["_law_model_here", "_law_group", "_law_many"] (ai eJ):=⟨rfl,rfl,rfl,by decide +kernel,rfl,by decide +kernel,by decide +kernel⟩
theorem qH {f:Addr}{fd:FuncData}(E:Env K mg)(F:Fn K mg "_law_let_in" eJ ["_law_model_here", "_law_group", "_law_many"] f fd) :
  bV P w K mg base CX0 1 f fd ["_law_model_here", "_law_group", "_law_many"] (de K cf):=by
 refine bT (t:=lR) F.fn jI o5 (λ cdv A outer s H E' hr=>?_) nR
 refine Jd.h ?_
 exact Q.ae (Q.aC (i:=3) jI.nd rfl (Or.inl rfl) (Q.pcB (pz rfl) xF rfl E.b_min xW (Q.pac (Q.dv 2) (Q.pac (Q.bB wJ qN (Q.ak) (Q.bp (bS hr) (Q.bp (bS hr) (Q.dv 0) (Q.aR)) (Q.dv 1))) (Q.ag))))) <|
  Q.ae (Q.dR (bS hr) (Q.bp (bS hr) (Q.dv 0) (Q.aR)) (Q.dv 1) (Q.bB cz bJ (Q.bp (bS hr) (Q.bp (bS hr) (Q.dv 0) (Q.aR)) (Q.dv 1)) (Q.dv 3))) <|
  Q.aq (Q.aD (Q.dv 3))
theorem af2:(["_law_row"]:List Str).Nodup:=by decide +kernel
theorem ua:aG p6 ["_law_model_here"] (ai fL):=⟨rfl,rfl,rfl,by decide +kernel,rfl,by decide +kernel,by decide +kernel⟩
theorem uJ {f:Addr}{fd:FuncData}(E:Env K mg)(F:Fn K mg "_law_begun" fL ["_law_model_here"] f fd) :
  bV P w K mg base CX0 1 f fd ["_law_model_here"] (de K bC):=by
 refine bT (t:=pN) F.fn ua rH (λ cdv A outer s H E' hr=>?_) pZ
 refine Jd.h ?_
 exact Q.ae (Q.dR (bS hr) (Q.dv 0) (Q.aR) (Q.vB rfl (qb (own:=(["_law_row"]:List Str)) (fr:=[]) rfl) (Q.aY (Q.bp (bS hr) (Q.dv 0) (Q.aR))) (λ _ _ _ _ _ _=>Q.aB (i:=0) af2 rfl (Or.inl rfl)) (λ _ _ _ _ _ _=>Q.cq) (λ _ _ _ _ _ _=>Q.ak))) <|
  Q.aq (Q.dR (bS hr) (Q.dv 0) (Q.aR) (Q.ak))
theorem aaL:(["_law_group", "_law_share", "_law_bag_here"]:List Str).Nodup:=by decide +kernel
theorem aaD:(["_law_group", "_law_share"]:List Str).Nodup:=by decide +kernel
theorem aee:(["_law_row", "_law_names"]:List Str).Nodup:=by decide +kernel
theorem fV:aG pJ ["_law_bag_here", "_law_model_here"] (ai fK):=⟨rfl,rfl,rfl,by decide +kernel,rfl,by decide +kernel,by decide +kernel⟩
theorem uO {f:Addr}{fd:FuncData}(E:Env K mg)(F:Fn K mg "_law_other" fK ["_law_bag_here", "_law_model_here"] f fd)(z_l_take:gX P w K mg base)(z_l_shares:iB P w K mg base) :
  bV P w K mg base CX0 3 f fd ["_law_bag_here", "_law_model_here"] (de K cH):=by
 obtain ⟨_,_,G_l_take,O_l_take⟩:=z_l_take
 obtain ⟨_,_,G_l_shares,O_l_shares⟩:=z_l_shares
 refine bT (t:=oU ax aZ) F.fn fV qG (λ cdv A outer s H E' hr=>?_) oP
 refine Jd.h ?_
 exact Q.ae (Q.la (i:=2) fV.nd rfl (Or.inl rfl) rfl (qb (own:=(["_law_group", "_law_share"]:List Str)) (fr:=[0]) rfl) (Q.aY (Q.bp (bS hr) (Q.dv 1) (Q.aR))) (λ _ _ _ _ _ _=>Q.cS rfl (Q.aI (Q.aB (i:=0) aaL rfl (Or.inl rfl)) (Q.aI (Q.aB (i:=1) aaL rfl (Or.inl rfl)) (Q.cu)))) (λ _ _ _ _ _ _=>Q.fo (Q.bo yX tV (Q.pcF O_l_take (hr.mono (by decide)) rfl G_l_take.mg G_l_take.fn.kp G_l_take.bd (Q.pac (Q.dv 2) (Q.pac (Q.ak) (Q.ag)))) (Q.ak))) (λ _ _ _ _ _ _=>Q.er (Q.pac (Q.dv 0) (Q.pac (Q.bB cz bJ (Q.ak) (Q.pcF O_l_take (hr.mono (by decide)) rfl G_l_take.mg G_l_take.fn.kp G_l_take.bd (Q.pac (Q.dv 2) (Q.pac (Q.ak) (Q.ag))))) (Q.ag))))) <|
  Q.ae (Q.bD (Q.bo (gO hr.h) fm (Q.pcF O_l_take (hr.mono (by decide)) rfl G_l_take.mg G_l_take.fn.kp G_l_take.bd (Q.pac (Q.dv 0) (Q.pac (Q.ak) (Q.ag)))) (Q.ak))
   (Q.aq (Q.cw (Q.iE (Q.dv 2))))
   (Q.aH)) <|
  Q.ae (Q.aC (i:=3) fV.nd rfl (Or.inr rfl) (Q.yc (Q.mN rfl (qb (own:=(["_law_group", "_law_share"]:List Str)) (fr:=[]) rfl) (Q.lq (Q.dv 2)) (λ _ _ _ _ _ _=>Q.cS rfl (Q.aI (Q.aB (i:=0) aaD rfl (Or.inl rfl)) (Q.aI (Q.aB (i:=1) aaD rfl (Or.inl rfl)) (Q.cu)))) (λ _ _ _ _ _ _=>Q.cq) (λ _ _ _ _ _ _=>Q.dv 0)))) <|
  Q.ae (Q.la (i:=4) fV.nd rfl (Or.inl rfl) rfl (qb (own:=(["_law_row"]:List Str)) (fr:=[3]) rfl) (Q.aY (Q.pcF O_l_shares (hr.mono (by decide)) rfl G_l_shares.mg G_l_shares.fn.kp G_l_shares.bd (Q.pac (Q.dv 0) (Q.ag)))) (λ _ _ _ _ _ _=>Q.aB (i:=0) aee rfl (Or.inl rfl)) (λ _ _ _ _ _ _=>Q.fo (Q.bo iW (nD true) (Q.bM aU aS (Q.dv 0) (Q.ak)) (Q.dv 1))) (λ _ _ _ _ _ _=>Q.dv 0)) <|
  Q.aq (Q.aD (Q.vk (Q.bB qf rW (Q.dv 2) (Q.dv 4)) (Q.dt) (Q.dj (Q.ak))))
theorem dg:aG iH ["_law_model_here", "_law_parted"] (ai cU):=⟨rfl,rfl,rfl,by decide +kernel,rfl,by decide +kernel,by decide +kernel⟩
theorem mO {f:Addr}{fd:FuncData}(E:Env K mg)(F:Fn K mg "_law_reshared" cU ["_law_model_here", "_law_parted"] f fd)(z_l_begun:kD P w K mg base) :
  bV P w K mg base CX0 2 f fd ["_law_model_here", "_law_parted"] (de K bG):=by
 obtain ⟨_,_,G_l_begun,O_l_begun⟩:=z_l_begun
 refine bT (t:=iN bC) F.fn dg kS (λ cdv A outer s H E' hr=>?_) jR
 refine Jd.h ?_
 exact Q.ae (Q.aC (i:=2) dg.nd rfl (Or.inl rfl) (Q.fO)) <|
  Q.ae (Q.d5 PassesOwn.never rfl (Q.aY (Q.dv 1)) (Q.cS rfl (Q.aI (Q.aB (i:=3) dg.nd rfl (Or.inl rfl)) (Q.aI (Q.aB (i:=4) dg.nd rfl (Or.inl rfl)) (Q.cu))))
   (Q.aq (Q.dR (bS hr) (Q.dv 2) (Q.dv 3) (Q.ka (bS hr) (Q.bp (bS hr) (Q.dv 0) (Q.aR)) (Q.dv 3) (Q.ak))))) <|
  Q.ae (Q.cw (Q.zu (Q.dv 0) (Q.jd (trs:=[(dC (.d (.str "shares")),jn (dCB ff (aj (ar 1) (aP)))),(dC (.d (.str "waits")),ar 2)]) (Q.dh (Q.aR) (Q.eW (Q.pcT dS gL rfl E.b_list iu (Q.pac (Q.dv 1) (Q.ag)))) (Q.dh (Q.aR) (Q.dv 2) (Q.nE)))))) <|
  Q.aq (Q.cw (Q.pcF O_l_begun (hr.mono (by decide)) rfl G_l_begun.mg G_l_begun.fn.kp G_l_begun.bd (Q.pac (Q.dv 0) (Q.ag))))
theorem gg:aG dH ["self"] (ai bx):=⟨rfl,rfl,rfl,by decide +kernel,rfl,by decide +kernel,by decide +kernel⟩
theorem gb {f:Addr}{fd:FuncData}(E:Env K mg)(F:Mf K av "is_waited_at" "Door.is_waited_at" bx ["self"] f fd) :
  bV P w K mg base CX0 1 f fd ["self"] (de K aF):=by
 refine bT (t:=dB) F.fn gg fD (λ cdv A outer s H E' hr=>?_) fA
 refine Jd.h ?_
 exact Q.aq (Q.aD (Q.abS rfl rfl E.b_any (Q.dW E.k_Door E.n_Door_asks_waiting (Q.dv 0))))
theorem mJ:aG iQ ["self"] (ai cY):=⟨rfl,rfl,rfl,by decide +kernel,rfl,by decide +kernel,by decide +kernel⟩
theorem nX {f:Addr}{fd:FuncData}(E:Env K mg)(F:Mf K av "owner" "Door.owner" cY ["self"] f fd) :
  bV P w K mg base CX0 1 f fd ["self"] (de K bE):=by
 refine bT (t:=iK) F.fn mJ kM (λ cdv A outer s H E' hr=>?_) jH
 refine Jd.h ?_
 exact Q.ae (Q.bD (Q.cO (Q.g8 (Q.dW E.k_Door E.n_Door_owner_round (Q.dv 0))))
   (Q.aq (Q.aD (Q.fJ)))
   (Q.aH)) <|
  Q.aq (Q.aD (Q.bM aU aS (Q.dW E.k_Door E.n_Door_owner_round (Q.dv 0)) (Q.bB gj dZ (Q.dW E.k_Door E.n_Door_next_slot (Q.dv 0)) (Q.pcB fU lY rfl E.b_len lO (Q.pac (Q.dW E.k_Door E.n_Door_owner_round (Q.dv 0)) (Q.ag))))))
theorem aeN:(["group", "self"]:List Str).Nodup:=by decide +kernel
theorem eX:aG lg ["self"] (ai eK):=⟨rfl,rfl,rfl,by decide +kernel,rfl,by decide +kernel,by decide +kernel⟩
theorem rn {f:Addr}{fd:FuncData}(E:Env K mg)(F:Mf K av "use" "Door.use" eK ["self"] f fd)(z_Door_is_waited_at:dE P w K mg base)(z_Door_owner:iM P w K mg base) :
  bV P w K mg base CX0 2 f fd ["self"] (de K cc):=by
 obtain ⟨_,_,G_Door_is_waited_at,O_Door_is_waited_at⟩:=z_Door_is_waited_at
 obtain ⟨_,_,G_Door_owner,O_Door_owner⟩:=z_Door_owner
 refine bT (t:=lX aF bE) F.fn eX oK (λ cdv A outer s H E' hr=>?_) nB
 refine Jd.h ?_
 exact Q.ae (Q.bD (Q.cO (Q.cR (Q.fj (Q.dv 0) E.k_Door G_Door_is_waited_at.me O_Door_is_waited_at (hr.mono (by decide)) G_Door_is_waited_at.bd)))
   (Q.aq (Q.aD (Q.fJ)))
   (Q.aH)) <|
  Q.ae (Q.aC (i:=1) eX.nd rfl (Or.inl rfl) (Q.eW (Q.pcT (t8 rfl) zp rfl E.b_list iu (Q.pac (Q.dW E.k_Door E.n_Door_asks_waiting (Q.dv 0)) (Q.ag))))) <|
  Q.ae (Q.aC (i:=2) eX.nd rfl (Or.inl rfl) (Q.xO hr (Q.dv 1) (Q.fj (Q.dv 0) E.k_Door G_Door_owner.me O_Door_owner (hr.mono (by decide)) G_Door_owner.bd))) <|
  Q.ae (Q.hV (i:=3) eX.nd rfl (Or.inl rfl) rfl (qb (own:=(["group"]:List Str)) (fr:=[0]) rfl) (Q.aY (Q.sj (Q.dX (Q.dv 1) (Q.dj (Q.dv 2)) (Q.dt)) (Q.dX (Q.dv 1) (Q.dt) (Q.dj (Q.dv 2))))) (λ _ _ _ _ _ _=>Q.aB (i:=0) aeN rfl (Or.inl rfl)) (λ _ _ _ _ _ _=>Q.fo (Q.bo yX tV (Q.bp (bS hr) (Q.dW E.k_Door E.n_Door_asks_waiting (Q.dv 1)) (Q.dv 0)) (Q.ak))) (λ _ _ _ _ _ _=>Q.dv 0)) <|
  Q.ae (Q.mz (bS hr) (Q.dW E.k_Door E.n_Door_asks_waiting (Q.dv 0)) (Q.bM aU aS (Q.dv 3) (Q.ak)) (Q.ak) adi) <|
  Q.ae (Q.uA E.k_Door E.n_Door_next_slot (Q.dv 0) (Q.ak) tF) <|
  Q.aq (Q.aD (Q.bM aU aS (Q.dv 3) (Q.ak)))
theorem ot:aG tS ["_law_door", "_law_model_here"] (ai gQ):=⟨rfl,rfl,rfl,by decide +kernel,rfl,by decide +kernel,by decide +kernel⟩
theorem wH {f:Addr}{fd:FuncData}(E:Env K mg)(F:Fn K mg "_law_used" gQ ["_law_door", "_law_model_here"] f fd)(z_Door_use:lb P w K mg base) :
  bV P w K mg base CX0 3 f fd ["_law_door", "_law_model_here"] (de K cX):=by
 obtain ⟨_,_,G_Door_use,O_Door_use⟩:=z_Door_use
 refine bT (t:=tJ cc) F.fn ot uC (λ cdv A outer s H E' hr=>?_) rC
 refine Jd.h ?_
 exact Q.ae (Q.aC (i:=2) ot.nd rfl (Or.inl rfl) (Q.fj (Q.dv 0) E.k_Door G_Door_use.me O_Door_use (hr.mono (by decide)) G_Door_use.bd)) <|
  Q.ae (Q.bD (Q.bo (gO hr.h) fm (Q.abj rfl rfl E.b_sum (Q.bp (bS hr) (Q.dv 1) (Q.aR))) (Q.ak))
   (Q.aq (Q.aD (Q.iX xk rR (Q.dv 2) (Q.fJ))))
   (Q.aH)) <|
  Q.ae (Q.bD (Q.bo acx yl (Q.ka (bS hr) (Q.bp (bS hr) (Q.dv 1) (Q.aR)) (Q.dv 2) (Q.ak)) (Q.ak))
   (Q.aq (Q.aD (Q.jv)))
   (Q.aH)) <|
  Q.ae (Q.dR (bS hr) (Q.bp (bS hr) (Q.dv 1) (Q.aR)) (Q.dv 2) (Q.bB wJ qN (Q.bp (bS hr) (Q.bp (bS hr) (Q.dv 1) (Q.aR)) (Q.dv 2)) (Q.ak))) <|
  Q.aq (Q.aD (Q.jv))
theorem ac7:(["_law_row", "_law_names"]:List Str).Nodup:=by decide +kernel
theorem eG:aG sd ["_law_bag_here", "_law_door", "_law_model_here", "_law_names"] (ai hJ):=⟨rfl,rfl,rfl,by decide +kernel,rfl,by decide +kernel,by decide +kernel⟩
theorem vQ {f:Addr}{fd:FuncData}(E:Env K mg)(F:Fn K mg "_law_deed" hJ ["_law_bag_here", "_law_door", "_law_model_here", "_law_names"] f fd)(z_l_take:gX P w K mg base)(z_l_told:mx P w K mg base)(z_l_let_in:lU P w K mg base)(z_l_begun:kD P w K mg base)(z_Door_begin:fR P w K mg base)(z_l_other:pO P w K mg base)(z_l_reshared:i5 P w K mg base)(z_Door_new_shares:cQ P w K mg base)(z_l_used:tQ P w K mg base) :
  bV P w K mg base CX0 6 f fd ["_law_bag_here", "_law_door", "_law_model_here", "_law_names"] (de K cT):=by
 obtain ⟨_,_,G_l_take,O_l_take⟩:=z_l_take
 obtain ⟨_,_,G_l_told,O_l_told⟩:=z_l_told
 obtain ⟨_,_,G_l_let_in,O_l_let_in⟩:=z_l_let_in
 obtain ⟨_,_,G_l_begun,O_l_begun⟩:=z_l_begun
 obtain ⟨_,_,G_Door_begin,O_Door_begin⟩:=z_Door_begin
 obtain ⟨_,_,G_l_other,O_l_other⟩:=z_l_other
 obtain ⟨_,_,G_l_reshared,O_l_reshared⟩:=z_l_reshared
 obtain ⟨_,_,G_Door_new_shares,O_Door_new_shares⟩:=z_Door_new_shares
 obtain ⟨_,_,G_l_used,O_l_used⟩:=z_l_used
 refine bT (t:=sW ax bQ cf bC aO cH bG aA cX) F.fn eG uU (λ cdv A outer s H E' hr=>?_) qE
 refine Jd.h ?_
 exact Q.ae (Q.aC (i:=4) eG.nd rfl (Or.inl rfl) (Q.pcF O_l_take (hr.mono (by decide)) rfl G_l_take.mg G_l_take.fn.kp G_l_take.bd (Q.pac (Q.dv 0) (Q.pac (Q.ak) (Q.ag))))) <|
  Q.ae (Q.aC (i:=5) eG.nd rfl (Or.inl rfl) (Q.bM aU aS (Q.dv 3) (Q.pcF O_l_take (hr.mono (by decide)) rfl G_l_take.mg G_l_take.fn.kp G_l_take.bd (Q.pac (Q.dv 0) (Q.pac (Q.pcB fU lY rfl E.b_len lO (Q.pac (Q.dv 3) (Q.ag))) (Q.ag)))))) <|
  Q.ae (Q.aC (i:=6) eG.nd rfl (Or.inl rfl) (Q.bM aU aS (Q.gK (Q.pac (Q.bB cz bJ (Q.ak) (Q.pcF O_l_take (hr.mono (by decide)) rfl G_l_take.mg G_l_take.fn.kp G_l_take.bd (Q.pac (Q.dv 0) (Q.pac (Q.ak) (Q.ag))))) (Q.pac (Q.bB cz bJ (Q.ak) (Q.pcF O_l_take (hr.mono (by decide)) rfl G_l_take.mg G_l_take.fn.kp G_l_take.bd (Q.pac (Q.dv 0) (Q.pac (Q.ak) (Q.ag))))) (Q.pac (Q.ak) (Q.ag))))) (Q.pcF O_l_take (hr.mono (by decide)) rfl G_l_take.mg G_l_take.fn.kp G_l_take.bd (Q.pac (Q.dv 0) (Q.pac (Q.ak) (Q.ag)))))) <|
  Q.ae (Q.bD (Q.bo acx yl (Q.dv 4) (Q.ak))
   (Q.ae (Q.aC (i:=7) eG.nd rfl (Or.inl rfl) (Q.pcF O_l_told (hr.mono (by decide)) rfl G_l_told.mg G_l_told.fn.kp G_l_told.bd (Q.pac (Q.dv 1) (Q.pac (Q.ak) (Q.pac (Q.dv 5) (Q.pac (Q.dv 6) (Q.ag))))))) <|
   Q.ae (Q.bD (Q.fX (bS hr) (Q.dv 5) (Q.bp (bS hr) (Q.dv 2) (Q.aR)))
    (Q.aq (Q.aD (Q.iX (gO hr.h) fm (Q.dv 7) (Q.er (Q.pac (Q.aR) (Q.pac (Q.dv 5) (Q.ag)))))))
    (Q.aH)) <|
   Q.aq (Q.aD (Q.iL (Q.iX (gO hr.h) fm (Q.dv 7) (Q.er (Q.pac (Q.aR) (Q.pac (Q.pcF O_l_let_in (hr.mono (by decide)) rfl G_l_let_in.mg G_l_let_in.fn.kp G_l_let_in.bd (Q.pac (Q.dv 2) (Q.pac (Q.dv 5) (Q.pac (Q.dv 6) (Q.ag))))) (Q.ag))))) (Q.lK (Q.tP (Q.pcB dF gH rfl E.b_isinstance bF (Q.pac (Q.bM aU aS (Q.dv 7) (Q.ak)) (Q.pac (Q.fk rfl E.b_bool rj) (Q.ag)))))))))
   (Q.aH)) <|
  Q.ae (Q.bD (Q.bo (gO hr.h) fm (Q.dv 4) (Q.ak))
   (Q.ae (Q.cw (Q.pcF O_l_begun (hr.mono (by decide)) rfl G_l_begun.mg G_l_begun.fn.kp G_l_begun.bd (Q.pac (Q.dv 2) (Q.ag)))) <|
   Q.aq (Q.aD (Q.iX xk rR (Q.fj (Q.dv 1) E.k_Door G_Door_begin.me O_Door_begin (hr.mono (by decide)) G_Door_begin.bd) (Q.fJ))))
   (Q.aH)) <|
  Q.ae (Q.bD (Q.bo (gO hr.h) fm (Q.dv 4) (Q.ak))
   (Q.ae (Q.aC (i:=8) eG.nd rfl (Or.inl rfl) (Q.eW (Q.pcF O_l_other (hr.mono (by decide)) rfl G_l_other.mg G_l_other.fn.kp G_l_other.bd (Q.pac (Q.dv 0) (Q.pac (Q.dv 2) (Q.ag)))))) <|
   Q.ae (Q.bD (Q.bo (gO hr.h) fm (Q.dv 8) (Q.gK (Q.ag)))
    (Q.aq (Q.aD (Q.jv)))
    (Q.aH)) <|
   Q.ae (Q.cw (Q.pcF O_l_reshared (hr.mono (by decide)) rfl G_l_reshared.mg G_l_reshared.fn.kp G_l_reshared.bd (Q.pac (Q.dv 2) (Q.pac (Q.dv 8) (Q.ag))))) <|
   Q.ae (Q.cw (Q.vZ (Q.dv 3) (Q.mN rfl (qb (own:=(["_law_row"]:List Str)) (fr:=[3]) rfl) (Q.aY (Q.dv 8)) (λ _ _ _ _ _ _=>Q.aB (i:=0) ac7 rfl (Or.inl rfl)) (λ _ _ _ _ _ _=>Q.fo (Q.bo iW (nD true) (Q.bM aU aS (Q.dv 0) (Q.ak)) (Q.dv 1))) (λ _ _ _ _ _ _=>Q.bM aU aS (Q.dv 0) (Q.ak))))) <|
   Q.aq (Q.aD (Q.iX xk rR (Q.ng (Q.dv 1) E.k_Door G_Door_new_shares.me O_Door_new_shares (hr.mono (by decide)) G_Door_new_shares.bd (Q.pac (Q.dv 8) (Q.ag))) (Q.fJ))))
   (Q.aH)) <|
  Q.aq (Q.aD (Q.pcF O_l_used (hr.mono (by decide)) rfl G_l_used.mg G_l_used.fn.kp G_l_used.bd (Q.pac (Q.dv 1) (Q.pac (Q.dv 2) (Q.ag)))))
theorem bR:aG fQ ["_law_door", "_law_model_here", "_law_names"] (ai bZ):=⟨rfl,rfl,rfl,by decide +kernel,rfl,by decide +kernel,by decide +kernel⟩
theorem i8 {f:Addr}{fd:FuncData}(E:Env K mg)(F:Fn K mg "_law_waits_right" bZ ["_law_door", "_law_model_here", "_law_names"] f fd)(z_l_told:mx P w K mg base) :
  bV P w K mg base CX0 6 f fd ["_law_door", "_law_model_here", "_law_names"] (de K aT):=by
 obtain ⟨_,_,G_l_told,O_l_told⟩:=z_l_told
 refine bT (t:=fH bQ) F.fn bR iz (λ cdv A outer s H E' hr=>?_) gM
 refine Jd.h ?_
 exact Q.ae (Q.uu (Q.d5 PassesOwn.never rfl (Q.lq (Q.dv 2)) (Q.aB (i:=3) bR.nd rfl (Or.inl rfl))
   (Q.ae (Q.aC (i:=4) bR.nd rfl (Or.inl rfl) (Q.er (Q.pac (Q.aR) (Q.pac (Q.dv 3) (Q.ag))))) <|
   Q.ae (Q.bD (Q.rD (bS hr) (Q.dv 3) (Q.bp (bS hr) (Q.dv 1) (Q.aR)))
    (Q.aq (Q.aC (i:=4) bR.nd rfl (Or.inl rfl) (Q.er (Q.pac (Q.aR) (Q.pac (Q.bp (bS hr) (Q.bp (bS hr) (Q.dv 1) (Q.aR)) (Q.dv 3)) (Q.ag))))))
    (Q.aH)) <|
   Q.ae (Q.aC (i:=5) bR.nd rfl (Or.inl rfl) (Q.pcF O_l_told (hr.mono (by decide)) rfl G_l_told.mg G_l_told.fn.kp G_l_told.bd (Q.pac (Q.dv 0) (Q.pac (Q.ak) (Q.pac (Q.dv 3) (Q.pac (Q.ak) (Q.ag))))))) <|
   Q.aq (Q.bD (Q.pW (Q.i4 (Q.bo (aaE hr.h) vp (Q.dv 5) (Q.dv 4)) (Q.gC (Q.cR (Q.pcB dF gH rfl E.b_isinstance bF (Q.pac (Q.bM aU aS (Q.dv 5) (Q.ak)) (Q.pac (Q.fk rfl E.b_bool rj) (Q.ag))))))))
    (Q.aq (Q.aD (Q.jv)))
    (Q.aH))))) <|
  Q.aq (Q.aD (Q.jv))
theorem aas:(["_law_group", "_law_share"]:List Str).Nodup:=by decide +kernel
theorem gi:aG aey ["_law_script"] (ai mV):=⟨rfl,rfl,rfl,by decide +kernel,rfl,by decide +kernel,by decide +kernel⟩
theorem aeC {f:Addr}{fd:FuncData}(E:Env K mg)(F:Fn K mg "law" mV ["_law_script"] f fd)(z_l_bag:xw P w K mg base)(z_l_shares:iB P w K mg base)(z_l_take:gX P w K mg base)(z_Door_init:j9 P w K mg base)(z_l_model:oQ P w K mg base)(z_l_deed:su P w K mg base)(z_l_waits_right:fN P w K mg base) :
  bV P w K mg base CX0 8 f fd ["_law_script"] (de K jF):=by
 obtain ⟨_,_,G_l_bag,O_l_bag⟩:=z_l_bag
 obtain ⟨_,_,G_l_shares,O_l_shares⟩:=z_l_shares
 obtain ⟨_,_,G_l_take,O_l_take⟩:=z_l_take
 obtain ⟨_,_,G_Door_init,O_Door_init⟩:=z_Door_init
 obtain ⟨_,_,G_l_model,O_l_model⟩:=z_l_model
 obtain ⟨_,_,G_l_deed,O_l_deed⟩:=z_l_deed
 obtain ⟨_,_,G_l_waits_right,O_l_waits_right⟩:=z_l_waits_right
 refine bT (t:=adT dU aZ ax a9 cx cT aT) F.fn gi acw (λ cdv A outer s H E' hr=>?_) zh
 refine Jd.h ?_
 exact Q.ae (Q.aC (i:=1) gi.nd rfl (Or.inl rfl) (Q.pcF O_l_bag (hr.mono (by decide)) rfl G_l_bag.mg G_l_bag.fn.kp G_l_bag.bd (Q.pac (Q.dv 0) (Q.ag)))) <|
  Q.ae (Q.aC (i:=2) gi.nd rfl (Or.inl rfl) (Q.pcF O_l_shares (hr.mono (by decide)) rfl G_l_shares.mg G_l_shares.fn.kp G_l_shares.bd (Q.pac (Q.dv 1) (Q.ag)))) <|
  Q.ae (Q.aC (i:=3) gi.nd rfl (Or.inl rfl) (Q.bM aU aS (Q.gK (Q.pac (Q.gK (Q.ag)) (Q.pac (Q.pcF O_l_shares (hr.mono (by decide)) rfl G_l_shares.mg G_l_shares.fn.kp G_l_shares.bd (Q.pac (Q.dv 1) (Q.ag))) (Q.ag)))) (Q.pcF O_l_take (hr.mono (by decide)) rfl G_l_take.mg G_l_take.fn.kp G_l_take.bd (Q.pac (Q.dv 1) (Q.pac (Q.ak) (Q.ag)))))) <|
  Q.ae (Q.aC (i:=4) gi.nd rfl (Or.inl rfl) (Q.d6 (Q.pac (Q.nu G_Door_init.e.mi O_Door_init (hr.mono (by decide)) rfl E.m_Door G_Door_init.e.bd (Q.pac (Q.eW (Q.pcT dS gL rfl E.b_list iu (Q.pac (Q.dv 2) (Q.ag)))) (Q.ag))) (Q.pac (Q.bM aU aS (Q.d6 (Q.pac (Q.zq G_Door_init.e.mi O_Door_init (hr.mono (by decide)) rfl E.m_Door G_Door_init.e.bn) (Q.pac (Q.nu G_Door_init.e.mi O_Door_init (hr.mono (by decide)) rfl E.m_Door G_Door_init.e.bd (Q.pac (Q.fJ) (Q.ag))) (Q.ag)))) (Q.pcF O_l_take (hr.mono (by decide)) rfl G_l_take.mg G_l_take.fn.kp G_l_take.bd (Q.pac (Q.dv 1) (Q.pac (Q.ak) (Q.ag))))) (Q.ag))))) <|
  Q.ae (Q.bD (Q.bo (aaE hr.h) vp (Q.dv 3) (Q.gK (Q.ag)))
   (Q.aq (Q.gv (Q.yA G_Door_init.e.mi O_Door_init (hr.mono (by decide)) rfl E.m_Door G_Door_init.bk (Q.eW (Q.pcT dS gL rfl E.b_list iu (Q.pac (Q.dv 3) (Q.ag))))) (Q.iF (Q.dv 4) (Q.ak))))
   (Q.aH)) <|
  Q.ae (Q.aC (i:=5) gi.nd rfl (Or.inl rfl) (Q.d6 (Q.pac (Q.pcF O_l_model (hr.mono (by decide)) rfl G_l_model.mg G_l_model.fn.kp G_l_model.bd (Q.pac (Q.dv 2) (Q.ag))) (Q.pac (Q.pcF O_l_model (hr.mono (by decide)) rfl G_l_model.mg G_l_model.fn.kp G_l_model.bd (Q.pac (Q.dv 3) (Q.ag))) (Q.ag))))) <|
  Q.ae (Q.aC (i:=6) gi.nd rfl (Or.inl rfl) (Q.bB qf rW (Q.vB rfl (qb (own:=(["_law_group", "_law_share"]:List Str)) (fr:=[]) rfl) (Q.aY (Q.sj (Q.dv 2) (Q.dv 3))) (λ _ _ _ _ _ _=>Q.cS rfl (Q.aI (Q.aB (i:=0) aas rfl (Or.inl rfl)) (Q.aI (Q.aB (i:=1) aas rfl (Or.inl rfl)) (Q.cu)))) (λ _ _ _ _ _ _=>Q.cq) (λ _ _ _ _ _ _=>Q.dv 0)) (Q.d6 (Q.pac (Q.aR) (Q.ag))))) <|
  Q.ae (Q.d5 PassesOwn.never rfl (Q.cN rfl E.b_range (Q.pac (Q.ak) (Q.ag))) (Q.aB (i:=7) gi.nd rfl (Or.inl rfl))
   (Q.ae (Q.aC (i:=8) gi.nd rfl (Or.inl rfl) (Q.pcF O_l_take (hr.mono (by decide)) rfl G_l_take.mg G_l_take.fn.kp G_l_take.bd (Q.pac (Q.dv 1) (Q.pac (Q.ak) (Q.ag))))) <|
   Q.ae (Q.bD (Q.cO (Q.cR (Q.pcF O_l_deed (hr.mono (by decide)) rfl G_l_deed.mg G_l_deed.fn.kp G_l_deed.bd (Q.pac (Q.dv 1) (Q.pac (Q.bM aU aS (Q.dv 4) (Q.dv 8)) (Q.pac (Q.bM aU aS (Q.dv 5) (Q.dv 8)) (Q.pac (Q.dv 6) (Q.ag))))))))
    (Q.aq (Q.aD (Q.jv)))
    (Q.aH)) <|
   Q.aq (Q.d5 PassesOwn.never rfl (Q.cN rfl E.b_range (Q.pac (Q.ak) (Q.ag))) (Q.aB (i:=9) gi.nd rfl (Or.inl rfl))
    (Q.aq (Q.bD (Q.cO (Q.cR (Q.pcF O_l_waits_right (hr.mono (by decide)) rfl G_l_waits_right.mg G_l_waits_right.fn.kp G_l_waits_right.bd (Q.pac (Q.bM aU aS (Q.dv 4) (Q.dv 9)) (Q.pac (Q.bM aU aS (Q.dv 5) (Q.dv 9)) (Q.pac (Q.dv 6) (Q.ag)))))))
     (Q.aq (Q.aD (Q.jv)))
     (Q.aH)))))) <|
  Q.aq (Q.aD (Q.jv))
theorem all_mk {l:PySem.W.OpenLaw}{w:World}{K:PySem.W.Frag}{h:Heap}{mg:Str->Option Value}{fa:Addr}(X:K.In h)(G:h.Ns mainGlobals mg)(hfa:mg "law" = some (.ref fa))
  (p_l_bag:PFn K "_law_bag" kz)
  (p_l_take:PFn K "_law_take" gP)
  (p_l_shares:PFn K "_law_shares" eP)
  (p_is_word:PFn K "is_word" eD)
  (p_is_whole:PFn K "is_whole" ef)
  (p_is_within:PFn K "is_within" dI)
  (p_is_share_row:PFn K "is_share_row" cD)
  (p_refuse_shares:PFn K "refuse_shares" bW)
  (p_due_at:PFn K "due_at" ig)
  {f_round_of:Addr}{oc_round_of kV_round_of dc_round_of pm_round_of cd_round_of ct_round_of:Value}{od_round_of an_round_of:Option Addr}{sl_round_of:Array (Option Value)}
  (a_round_of:PySem.W.nsIn K mainGlobals "round_of" = some (some (.ref f_round_of)))(l_round_of:K.lookup f_round_of=some ⟨oc_round_of,od_round_of,.func (PySem.W.fnOf "round_of" "round_of" (aN cM) (aE cM) (ai cM) .none kV_round_of dc_round_of pm_round_of an_round_of cd_round_of ct_round_of),sl_round_of⟩)(c_round_of:PySem.W.codeIn K cd_round_of "round_of" = true)(k_round_of:PySem.W.keepIn K (.ref f_round_of)=true)
  (cc_round_of:cd_round_of=.ref cI)
  (p_Door_begin:PMf K av "begin" "Door.begin" cW)
  (p_Door_new_shares:PMf K av "new_shares" "Door.new_shares" bL)
  {f_Door_init:Addr}{oc_Door_init kV_Door_init dc_Door_init pm_Door_init cd_Door_init ct_Door_init:Value}{od_Door_init an_Door_init:Option Addr}{sl_Door_init:Array (Option Value)}
  {T_Door_init:Addr}{n_Door_init:Nat}{oc2_Door_init:Value}{od2_Door_init:Option Addr}{sl2_Door_init:Array (Option Value)}
  (a_Door_init:PySem.W.findIn K (.ref av) "__init__" = some (some (.ref f_Door_init)))(i_Door_init:PySem.W.isFn K (.ref f_Door_init)=true)(l_Door_init:K.lookup f_Door_init=some ⟨oc_Door_init,od_Door_init,.func (PySem.W.fnOf "__init__" "Door.__init__" (aN cF) (aE cF) (ai cF) (.ref T_Door_init) kV_Door_init dc_Door_init pm_Door_init an_Door_init cd_Door_init ct_Door_init),sl_Door_init⟩)(c_Door_init:PySem.W.codeIn K cd_Door_init "Door.__init__" = true)(k_Door_init:PySem.W.keepIn K (.ref f_Door_init)=true)
  (dt_Door_init:K.lookup T_Door_init=some ⟨oc2_Door_init,od2_Door_init,.seq #[.none] n_Door_init,sl2_Door_init⟩)
  (p_l_model:PFn K "_law_model" fE)
  {f_Unknown_init:Addr}{oc_Unknown_init kV_Unknown_init dc_Unknown_init pm_Unknown_init cd_Unknown_init ct_Unknown_init:Value}{od_Unknown_init an_Unknown_init:Option Addr}{sl_Unknown_init:Array (Option Value)}
  (a_Unknown_init:PySem.W.findIn K (.ref aw) "__init__" = some (some (.ref f_Unknown_init)))(i_Unknown_init:PySem.W.typeIn K (.ref f_Unknown_init)=some (.type "function"))(l_Unknown_init:K.lookup f_Unknown_init=some ⟨oc_Unknown_init,od_Unknown_init,.func (PySem.W.fnOf "__init__" "Unknown.__init__" (aN bI) (aE bI) (ai bI) .none kV_Unknown_init dc_Unknown_init pm_Unknown_init an_Unknown_init cd_Unknown_init ct_Unknown_init),sl_Unknown_init⟩)(c_Unknown_init:PySem.W.codeIn K cd_Unknown_init "Unknown.__init__" = true)(k_Unknown_init:PySem.W.keepIn K (.ref f_Unknown_init)=true)
  (xm_Unknown_init:XO.xmk K aw=true)(xt_Unknown_init:PySem.W.typeIn K (.ref aw)=some (.type "type"))(xk_Unknown_init:PySem.W.keepIn K (.ref aw)=true)
  {f_Door_waits:Addr}{oc_Door_waits kV_Door_waits dc_Door_waits pm_Door_waits cd_Door_waits ct_Door_waits:Value}{od_Door_waits an_Door_waits:Option Addr}{sl_Door_waits:Array (Option Value)}
  (a_Door_waits:PySem.W.findIn K (.ref av) "waits" = some (some (.ref f_Door_waits)))(i_Door_waits:PySem.W.isFn K (.ref f_Door_waits)=true)(l_Door_waits:K.lookup f_Door_waits=some ⟨oc_Door_waits,od_Door_waits,.func (PySem.W.fnOf "waits" "Door.waits" (aN bN) (aE bN) (ai bN) .none kV_Door_waits dc_Door_waits pm_Door_waits an_Door_waits cd_Door_waits ct_Door_waits),sl_Door_waits⟩)(c_Door_waits:PySem.W.codeIn K cd_Door_waits "Door.waits" = true)(k_Door_waits:PySem.W.keepIn K (.ref f_Door_waits)=true)
  {f_Door_ask:Addr}{oc_Door_ask kV_Door_ask dc_Door_ask pm_Door_ask cd_Door_ask ct_Door_ask:Value}{od_Door_ask an_Door_ask:Option Addr}{sl_Door_ask:Array (Option Value)}
  (a_Door_ask:PySem.W.findIn K (.ref av) "ask" = some (some (.ref f_Door_ask)))(i_Door_ask:PySem.W.isFn K (.ref f_Door_ask)=true)(l_Door_ask:K.lookup f_Door_ask=some ⟨oc_Door_ask,od_Door_ask,.func (PySem.W.fnOf "ask" "Door.ask" (aN cL) (aE cL) (ai cL) .none kV_Door_ask dc_Door_ask pm_Door_ask an_Door_ask cd_Door_ask ct_Door_ask),sl_Door_ask⟩)(c_Door_ask:PySem.W.codeIn K cd_Door_ask "Door.ask" = true)(k_Door_ask:PySem.W.keepIn K (.ref f_Door_ask)=true)
  (p_l_told:PFn K "_law_told" gU)
  (p_l_let_in:PFn K "_law_let_in" eJ)
  (p_l_begun:PFn K "_law_begun" fL)
  (p_l_other:PFn K "_law_other" fK)
  (p_l_reshared:PFn K "_law_reshared" cU)
  (p_Door_is_waited_at:PMf K av "is_waited_at" "Door.is_waited_at" bx)
  (p_Door_owner:PMf K av "owner" "Door.owner" cY)
  (p_Door_use:PMf K av "use" "Door.use" eK)
  (p_l_used:PFn K "_law_used" gQ)
  (p_l_deed:PFn K "_law_deed" hJ)
  (p_l_waits_right:PFn K "_law_waits_right" bZ)
  {f_law:Addr}{oc_law kV_law dc_law pm_law cd_law ct_law:Value}{od_law an_law:Option Addr}{sl_law:Array (Option Value)}
  (a_law:PySem.W.nsIn K mainGlobals "law" = some (some (.ref f_law)))(l_law:K.lookup f_law=some ⟨oc_law,od_law,.func (PySem.W.fnOf "law" "law" (aN mV) (aE mV) (ai mV) .none kV_law dc_law pm_law an_law cd_law ct_law),sl_law⟩)(c_law:PySem.W.codeIn K cd_law "law" = true)(k_law:PySem.W.keepIn K (.ref f_law)=true)
  (aC_Door:PySem.W.nsIn K mainGlobals "Door" = some (some (.ref av)))(pg_Door:PySem.W.plainGet K av Str.empty=true)(hd_Door:PySem.W.hasDictIn K av=true)(po_Door:PySem.W.plainOver K av=true)(sa_Door:PySem.W.findIn K (.ref av) "__setattr__" = some (some (.builtin "object.__setattr__")))(mk_Door:PySem.W.makesIn K av=true)(kc_Door:PySem.W.keepIn K (.ref av)=true)
  (xg_BadShare:PySem.W.nsIn K mainGlobals "BadShare" = some (some (.ref eI)))
  (xg_Known:PySem.W.nsIn K mainGlobals "Known" = some (some (.ref jQ)))
  (xg_PlaceError:PySem.W.nsIn K mainGlobals "PlaceError" = some (some (.ref dP)))
  (xg_Unknown:PySem.W.nsIn K mainGlobals "Unknown" = some (some (.ref aw)))
  (xg1:PySem.W.specialIn K (.builtin "object.__class__") "__get__" = some (some (.builtin "getset_descriptor.__get__")))(xg2:PySem.W.takesIn K (.builtin "object.__class__")=some true)
  (x1_Unknown:XO.aaX K aw=true)(x2_Unknown:PySem.W.findIn K (.ref aw) "__setattr__" = some (some (.builtin "object.__setattr__")))(x3_Unknown:PySem.W.findIn K (.ref aw) "__getattribute__" = some (some (.builtin "BaseException.__getattribute__")))(x4_Unknown:PySem.W.findIn K (.ref aw) "__getattr__" = some none)(x5_Unknown:PySem.W.findIn K (.ref aw) "__class__" = some (some (.builtin "object.__class__")))
  (xf_e_Unknown_PlaceError:PySem.W.exmOne K (.ref aw) (.ref dP)=some true)
  (xf_h_round_of:PySem.W.codeHdIn K cI af=true)
  (xf_i_Unknown_Known_BadShare:PySem.W.kitAny K (.ref aw) [.ref jQ,.ref eI]=some false)
  (xf_i_Unknown_Unknown:PySem.W.kitAny K (.ref aw) [.ref aw]=some true)
  (xf_i_Unknown_ValueError:PySem.W.kitAny K (.ref aw) [.type "ValueError"]=some true)
  (n_Door_asks_waiting:PySem.W.findIn K (.ref av) "asks_waiting" = some none)
  (n_Door_next_slot:PySem.W.findIn K (.ref av) "next_slot" = some none)
  (n_Door_number_led:PySem.W.findIn K (.ref av) "number_led" = some none)
  (n_Door_owner_round:PySem.W.findIn K (.ref av) "owner_round" = some none)
  (n_Unknown_name:PySem.W.findIn K (.ref aw) "name" = some none)
  (b_ValueError:PySem.W.nsIn K mainGlobals "ValueError" = some none)
  (b_abs:PySem.W.nsIn K mainGlobals "abs" = some none)
  (b_all:PySem.W.nsIn K mainGlobals "all" = some none)
  (b_any:PySem.W.nsIn K mainGlobals "any" = some none)
  (b_bool:PySem.W.nsIn K mainGlobals "bool" = some none)
  (b_enumerate:PySem.W.nsIn K mainGlobals "enumerate" = some none)
  (b_int:PySem.W.nsIn K mainGlobals "int" = some none)
  (b_isinstance:PySem.W.nsIn K mainGlobals "isinstance" = some none)
  (b_len:PySem.W.nsIn K mainGlobals "len" = some none)
  (b_list:PySem.W.nsIn K mainGlobals "list" = some none)
  (b_max:PySem.W.nsIn K mainGlobals "max" = some none)
  (b_min:PySem.W.nsIn K mainGlobals "min" = some none)
  (b_range:PySem.W.nsIn K mainGlobals "range" = some none)
  (b_str:PySem.W.nsIn K mainGlobals "str" = some none)
  (b_sum:PySem.W.nsIn K mainGlobals "sum" = some none)
  (b_tuple:PySem.W.nsIn K mainGlobals "tuple" = some none)
  {t_LONGEST_WORD:Tok}(g_LONGEST_WORD:PySem.W.nsIn K mainGlobals "LONGEST_WORD" = some (some (.int 8 t_LONGEST_WORD)))
  {t_MOST_GROUPS:Tok}(g_MOST_GROUPS:PySem.W.nsIn K mainGlobals "MOST_GROUPS" = some (some (.int 4 t_MOST_GROUPS)))
  {t_MOST_SHARE:Tok}(g_MOST_SHARE:PySem.W.nsIn K mainGlobals "MOST_SHARE" = some (some (.int 9 t_MOST_SHARE)))
  {t_MOST_WAITING:Tok}(g_MOST_WAITING:PySem.W.nsIn K mainGlobals "MOST_WAITING" = some (some (.int 40 t_MOST_WAITING))) :
  ∃ fd:FuncData,(∀ (s:Shared) (v:Value),BindsTo s fd ⟨[v],[]⟩ [("_law_script",v)])/\∀ base:Heap,K.In base->base.Ns mainGlobals mg->bV l.prog w K mg base CX0 8 fa fd ["_law_script"] (de K jF):=by
 have e:=hfa.symm.trans (PySem.W.mg_of X G a_law)
 cases e
 have E:Env K mg:=⟨⟨pg_Door,hd_Door,po_Door,sa_Door⟩,PySem.W.mg_of X G aC_Door,PySem.W.mg_of X G xg_BadShare,PySem.W.mg_of X G xg_Known,PySem.W.mg_of X G xg_PlaceError,PySem.W.mg_of X G xg_Unknown,⟨x1_Unknown,x2_Unknown,x3_Unknown,x4_Unknown,x5_Unknown,xg1,xg2⟩,xf_e_Unknown_PlaceError,xf_h_round_of,xf_i_Unknown_Known_BadShare,xf_i_Unknown_Unknown,xf_i_Unknown_ValueError,n_Door_asks_waiting,n_Door_next_slot,n_Door_number_led,n_Door_owner_round,n_Unknown_name,PySem.W.mg_none_of X G b_ValueError,PySem.W.mg_none_of X G b_abs,PySem.W.mg_none_of X G b_all,PySem.W.mg_none_of X G b_any,PySem.W.mg_none_of X G b_bool,PySem.W.mg_none_of X G b_enumerate,PySem.W.mg_none_of X G b_int,PySem.W.mg_none_of X G b_isinstance,PySem.W.mg_none_of X G b_len,PySem.W.mg_none_of X G b_list,PySem.W.mg_none_of X G b_max,PySem.W.mg_none_of X G b_min,PySem.W.mg_none_of X G b_range,PySem.W.mg_none_of X G b_str,PySem.W.mg_none_of X G b_sum,PySem.W.mg_none_of X G b_tuple,⟨_,PySem.W.mg_of X G g_LONGEST_WORD⟩,⟨_,PySem.W.mg_of X G g_MOST_GROUPS⟩,⟨_,PySem.W.mg_of X G g_MOST_SHARE⟩,⟨_,PySem.W.mg_of X G g_MOST_WAITING⟩⟩
 obtain ⟨_,_,G_l_bag⟩:∃ f fd,Fn K mg "_law_bag" kz ["_law_script"] f fd:=p_l_bag.fn X G (λ _ _ _ _ _ _ us hl=>by obtain ⟨_,rfl⟩:=D.gu hl; rfl)
 obtain ⟨_,_,G_l_take⟩:∃ f fd,Fn K mg "_law_take" gP ["_law_bag_here", "_law_many"] f fd:=p_l_take.fn X G (λ _ _ _ _ _ _ us hl=>by obtain ⟨_,_,rfl⟩:=D.oV hl; rfl)
 obtain ⟨_,_,G_l_shares⟩:∃ f fd,Fn K mg "_law_shares" eP ["_law_bag_here"] f fd:=p_l_shares.fn X G (λ _ _ _ _ _ _ us hl=>by obtain ⟨_,rfl⟩:=D.gu hl; rfl)
 obtain ⟨_,_,G_is_word⟩:∃ f fd,Fn K mg "is_word" eD ["thing"] f fd:=p_is_word.fn X G (λ _ _ _ _ _ _ us hl=>by obtain ⟨_,rfl⟩:=D.gu hl; rfl)
 obtain ⟨_,_,G_is_whole⟩:∃ f fd,Fn K mg "is_whole" ef ["thing"] f fd:=p_is_whole.fn X G (λ _ _ _ _ _ _ us hl=>by obtain ⟨_,rfl⟩:=D.gu hl; rfl)
 obtain ⟨_,_,G_is_within⟩:∃ f fd,Fn K mg "is_within" dI ["thing", "low", "high"] f fd:=p_is_within.fn X G (λ _ _ _ _ _ _ us hl=>by obtain ⟨_,_,_,rfl⟩:=D.uD hl; rfl)
 obtain ⟨_,_,G_is_share_row⟩:∃ f fd,Fn K mg "is_share_row" cD ["row"] f fd:=p_is_share_row.fn X G (λ _ _ _ _ _ _ us hl=>by obtain ⟨_,rfl⟩:=D.gu hl; rfl)
 obtain ⟨_,_,G_refuse_shares⟩:∃ f fd,Fn K mg "refuse_shares" bW ["shares"] f fd:=p_refuse_shares.fn X G (λ _ _ _ _ _ _ us hl=>by obtain ⟨_,rfl⟩:=D.gu hl; rfl)
 obtain ⟨_,_,G_due_at⟩:∃ f fd,Fn K mg "due_at" ig ["unit", "whole", "share"] f fd:=p_due_at.fn X G (λ _ _ _ _ _ _ us hl=>by obtain ⟨_,_,_,rfl⟩:=D.uD hl; rfl)
 have G_round_of:Fn K mg "round_of" cM ["shares"] _ _:=abI X G a_round_of l_round_of c_round_of k_round_of (λ _ _ _ _ _ _ us hl=>by obtain ⟨_,rfl⟩:=D.gu hl; rfl)
 obtain ⟨_,_,G_Door_begin⟩:∃ f fd,Mf K av "begin" "Door.begin" cW ["self"] f fd:=p_Door_begin.mf (λ _ _ _ _ _ _ us hl=>by obtain ⟨_,rfl⟩:=D.gu hl; rfl)
 obtain ⟨_,_,G_Door_new_shares⟩:∃ f fd,Mf K av "new_shares" "Door.new_shares" bL ["self", "shares"] f fd:=p_Door_new_shares.mf (λ _ _ _ _ _ _ us hl=>by obtain ⟨_,_,rfl⟩:=D.oV hl; rfl)
 have G_Door_init:MiF K av "Door.__init__" cF ["self", "shares"] "shares" _ _:=ada dt_Door_init (ady a_Door_init i_Door_init l_Door_init c_Door_init k_Door_init mk_Door kc_Door dt_Door_init (λ us hl=>match us,hl with | [_,_],_=>⟨_,rfl,rfl⟩) (λ us hl=>match us,hl with | [_],_=>⟨_,rfl,rfl⟩)) (λ _ _=>⟨_,rfl,rfl⟩)
 obtain ⟨_,_,G_l_model⟩:∃ f fd,Fn K mg "_law_model" fE ["_law_parted"] f fd:=p_l_model.fn X G (λ _ _ _ _ _ _ us hl=>by obtain ⟨_,rfl⟩:=D.gu hl; rfl)
 have G_Unknown_init:Xi K aw "Unknown.__init__" bI ["self", "name"] _ _:=agl E.x_Unknown a_Unknown_init i_Unknown_init l_Unknown_init c_Unknown_init k_Unknown_init xm_Unknown_init xt_Unknown_init xk_Unknown_init (λ _ _ _ _ _ _ us hl=>by obtain ⟨_,_,rfl⟩:=D.oV hl; rfl)
 have G_Door_waits:Mf K av "waits" "Door.waits" bN ["self", "group"] _ _:=aaY a_Door_waits i_Door_waits l_Door_waits c_Door_waits k_Door_waits (λ _ _ _ _ _ _ us hl=>by obtain ⟨_,_,rfl⟩:=D.oV hl; rfl)
 have G_Door_ask:Mf K av "ask" "Door.ask" cL ["self", "group", "many"] _ _:=aaY a_Door_ask i_Door_ask l_Door_ask c_Door_ask k_Door_ask (λ _ _ _ _ _ _ us hl=>by obtain ⟨_,_,_,rfl⟩:=D.uD hl; rfl)
 obtain ⟨_,_,G_l_told⟩:∃ f fd,Fn K mg "_law_told" gU ["_law_door", "_law_way", "_law_group", "_law_many"] f fd:=p_l_told.fn X G (λ _ _ _ _ _ _ us hl=>by obtain ⟨_,_,_,_,rfl⟩:=D.adK hl; rfl)
 obtain ⟨_,_,G_l_let_in⟩:∃ f fd,Fn K mg "_law_let_in" eJ ["_law_model_here", "_law_group", "_law_many"] f fd:=p_l_let_in.fn X G (λ _ _ _ _ _ _ us hl=>by obtain ⟨_,_,_,rfl⟩:=D.uD hl; rfl)
 obtain ⟨_,_,G_l_begun⟩:∃ f fd,Fn K mg "_law_begun" fL ["_law_model_here"] f fd:=p_l_begun.fn X G (λ _ _ _ _ _ _ us hl=>by obtain ⟨_,rfl⟩:=D.gu hl; rfl)
 obtain ⟨_,_,G_l_other⟩:∃ f fd,Fn K mg "_law_other" fK ["_law_bag_here", "_law_model_here"] f fd:=p_l_other.fn X G (λ _ _ _ _ _ _ us hl=>by obtain ⟨_,_,rfl⟩:=D.oV hl; rfl)
 obtain ⟨_,_,G_l_reshared⟩:∃ f fd,Fn K mg "_law_reshared" cU ["_law_model_here", "_law_parted"] f fd:=p_l_reshared.fn X G (λ _ _ _ _ _ _ us hl=>by obtain ⟨_,_,rfl⟩:=D.oV hl; rfl)
 obtain ⟨_,_,G_Door_is_waited_at⟩:∃ f fd,Mf K av "is_waited_at" "Door.is_waited_at" bx ["self"] f fd:=p_Door_is_waited_at.mf (λ _ _ _ _ _ _ us hl=>by obtain ⟨_,rfl⟩:=D.gu hl; rfl)
 obtain ⟨_,_,G_Door_owner⟩:∃ f fd,Mf K av "owner" "Door.owner" cY ["self"] f fd:=p_Door_owner.mf (λ _ _ _ _ _ _ us hl=>by obtain ⟨_,rfl⟩:=D.gu hl; rfl)
 obtain ⟨_,_,G_Door_use⟩:∃ f fd,Mf K av "use" "Door.use" eK ["self"] f fd:=p_Door_use.mf (λ _ _ _ _ _ _ us hl=>by obtain ⟨_,rfl⟩:=D.gu hl; rfl)
 obtain ⟨_,_,G_l_used⟩:∃ f fd,Fn K mg "_law_used" gQ ["_law_door", "_law_model_here"] f fd:=p_l_used.fn X G (λ _ _ _ _ _ _ us hl=>by obtain ⟨_,_,rfl⟩:=D.oV hl; rfl)
 obtain ⟨_,_,G_l_deed⟩:∃ f fd,Fn K mg "_law_deed" hJ ["_law_bag_here", "_law_door", "_law_model_here", "_law_names"] f fd:=p_l_deed.fn X G (λ _ _ _ _ _ _ us hl=>by obtain ⟨_,_,_,_,rfl⟩:=D.adK hl; rfl)
 obtain ⟨_,_,G_l_waits_right⟩:∃ f fd,Fn K mg "_law_waits_right" bZ ["_law_door", "_law_model_here", "_law_names"] f fd:=p_l_waits_right.fn X G (λ _ _ _ _ _ _ us hl=>by obtain ⟨_,_,_,rfl⟩:=D.uD hl; rfl)
 have G_law:Fn K mg "law" mV ["_law_script"] _ _:=abI X G a_law l_law c_law k_law (λ _ _ _ _ _ _ us hl=>by obtain ⟨_,rfl⟩:=D.gu hl; rfl)
 refine ⟨PySem.W.fnOf "law" "law" (aN mV) (aE mV) (ai mV) .none kV_law dc_law pm_law an_law cd_law ct_law,λ s v=>.of_eq rfl,λ base _ _=>?_⟩
 have z_l_bag:xw l.prog w K mg base:=⟨_,_,G_l_bag,zD E G_l_bag⟩
 have z_l_take:gX l.prog w K mg base:=⟨_,_,G_l_take,xh E G_l_take⟩
 have z_l_shares:iB l.prog w K mg base:=⟨_,_,G_l_shares,qi E G_l_shares z_l_take⟩
 have O_is_word:=uH (P:=l.prog) (w:=w) (base:=base) E G_is_word
 have z_is_whole:lD l.prog w K mg base:=⟨_,_,G_is_whole,qJ E G_is_whole⟩
 have z_is_within:jP l.prog w K mg base:=⟨_,_,G_is_within,o6 E G_is_within z_is_whole⟩
 have z_is_share_row:gk l.prog w K mg base:=⟨_,_,G_is_share_row,ki E G_is_share_row G_is_word O_is_word z_is_within⟩
 have z_refuse_shares:fF l.prog w K mg base:=⟨_,_,G_refuse_shares,jb E G_refuse_shares z_is_share_row⟩
 have z_due_at:tI l.prog w K mg base:=⟨_,_,G_due_at,wV E G_due_at⟩
 have z_round_of:ly l.prog w K mg base:=⟨_,_,G_round_of,qL E G_round_of cc_round_of z_due_at⟩
 have z_Door_begin:fR l.prog w K mg base:=⟨_,_,G_Door_begin,my E G_Door_begin⟩
 have z_Door_new_shares:cQ l.prog w K mg base:=⟨_,_,G_Door_new_shares,ij E G_Door_new_shares z_refuse_shares z_round_of z_Door_begin⟩
 have z_Door_init:j9 l.prog w K mg base:=⟨_,_,G_Door_init,pQ E G_Door_init z_Door_new_shares⟩
 have z_l_model:oQ l.prog w K mg base:=⟨_,_,G_l_model,uF E G_l_model⟩
 have O_Unknown_init:=kE (P:=l.prog) (w:=w) (base:=base) E G_Unknown_init
 have O_Door_waits:=mD (P:=l.prog) (w:=w) (base:=base) E G_Door_waits G_is_word O_is_word G_Unknown_init O_Unknown_init
 have O_Door_ask:=qP (P:=l.prog) (w:=w) (base:=base) E G_Door_ask G_Door_waits O_Door_waits
 have z_l_told:mx l.prog w K mg base:=⟨_,_,G_l_told,yk E G_l_told G_Door_ask O_Door_ask G_Door_waits O_Door_waits⟩
 have z_l_let_in:lU l.prog w K mg base:=⟨_,_,G_l_let_in,qH E G_l_let_in⟩
 have z_l_begun:kD l.prog w K mg base:=⟨_,_,G_l_begun,uJ E G_l_begun⟩
 have z_l_other:pO l.prog w K mg base:=⟨_,_,G_l_other,uO E G_l_other z_l_take z_l_shares⟩
 have z_l_reshared:i5 l.prog w K mg base:=⟨_,_,G_l_reshared,mO E G_l_reshared z_l_begun⟩
 have z_Door_is_waited_at:dE l.prog w K mg base:=⟨_,_,G_Door_is_waited_at,gb E G_Door_is_waited_at⟩
 have z_Door_owner:iM l.prog w K mg base:=⟨_,_,G_Door_owner,nX E G_Door_owner⟩
 have z_Door_use:lb l.prog w K mg base:=⟨_,_,G_Door_use,rn E G_Door_use z_Door_is_waited_at z_Door_owner⟩
 have z_l_used:tQ l.prog w K mg base:=⟨_,_,G_l_used,wH E G_l_used z_Door_use⟩
 have z_l_deed:su l.prog w K mg base:=⟨_,_,G_l_deed,vQ E G_l_deed z_l_take z_l_told z_l_let_in z_l_begun z_Door_begin z_l_other z_l_reshared z_Door_new_shares z_l_used⟩
 have z_l_waits_right:fN l.prog w K mg base:=⟨_,_,G_l_waits_right,i8 E G_l_waits_right z_l_told⟩
 have O_law:=aeC (P:=l.prog) (w:=w) (base:=base) E G_law z_l_bag z_l_shares z_l_take z_Door_init z_l_model z_l_deed z_l_waits_right
 exact O_law
end
theorem walk {l:PySem.W.OpenLaw}{q:Program}{loose:List Str}{XP:(Str->Option Value)->Heap->Prop}{YP:World->Heap->Prop}{d:DefRec}{K:Params->PySem.W.Frag}(hq:PyProof.Rows.importsNone q=true)(hn:l.most=some 63)(hdf:d.params.defaults=[])
  (hT:∀ w:World,PySem.W.codeHdIn (K w.params) cI af=true/\(K w.params).lookup af=none)(hY:∀ (w:World) (h:Heap),YP w h->(K w.params).In h/\∀ T∈[af],h.get? T=some { cls:=.none,data:=.fields #[] })
  (F:∀ (w:World) (mg:Str->Option Value) (fa:Addr) (h:Heap),(K w.params).In h->h.Ns mainGlobals mg->mg d.name=some (.ref fa) ->
   ∃ fd:FuncData,(∀ (s:Shared) (u:Value),BindsTo s fd ⟨[u],[]⟩ [("_law_script",u)])/\∀ base:Heap,(K w.params).In base->base.Ns mainGlobals mg->bV l.prog w (K w.params) mg base CX0 8 fa fd ["_law_script"] (de (K w.params) jF)) :
  PySem.W.WalkO q loose XP YP l.row.toRowW d [] (λ f vs=>PySem.call f vs) :=
 L2.za (n:=63) (k:=8) (x := "_law_script") (CX:=λ _=>CX0) (sp:=λ w=>de (K w.params) jF) hq hn (by decide) hdf ⟨rfl,rfl,by decide,by decide⟩ [af] (λ w T h=>by rw [List.mem_singleton.mp h]; exact ⟨⟨_,(hT w).1⟩,(hT w).2⟩) hY F (λ _ H a ns hl hO hB hS=>D.t7 (q:=eE) (lpos:=⟨46,41,46,92⟩) hl hO hB hS y7) λ _ _ _ _ _ z=>z
end K83
namespace PySem.W.Fast
def tw4152569160456648383:=0
def tw3813869849358536541:=0
def tw14853367300181041213:=0
def tw16357229708759019675:=0
def tw11925852670893560600:=0
def tw15493220646489374999:=0
def tw1425093539910028085:=0
def tw13371613632390784753:=0
def tw8748826428746884111:=0
def tw14764562105321121447:=0
def tw9398303768950863526:=0
def tw11810406881637104642:=0
def tw16846225664881059510:=0
end PySem.W.Fast
open PySem PySem.W PyProof.Rows
local macro_rules | `(tactic| walk_at "kf")=>`(tactic| (refine' D.adI ?a ?l ?c ?k; (case a=>k_is); (case l=>k_is); (case c=>k_is); (case k=>k_is)))
local macro_rules | `(tactic| walk_at "km")=>`(tactic| (refine' D.adA ?a ?i ?l ?c ?k; (case a=>k_is); (case i=>k_is); (case l=>k_is); (case c=>k_is); (case k=>k_is)))
set_option maxRecDepth 100000 in
theorem PySem.Challenge.cw_placedworks_k83_asks_let_in_holds : PySem.Challenge.rw_placedworks_k83_asks_let_in.Holds := by
 w_on; o_law; k_head; (case hw=>w_witness2)
 k_fill
 refine K83.walk (l:=PySem.Challenge.rw_placedworks_k83_asks_let_in) ?Q rfl rfl ?T (λ w h Y=>⟨PySem.W.km_in_of Y,PySem.W.km_tabs_of Y⟩) ?F
 case Q=>kernel_rfl
 case T=>(intro w; exact ⟨by kernel_rfl,by kernel_rfl⟩)
 case F =>
  intro w mg fa h KX G hmg
  refine' K83.all_mk KX G hmg ?p_l_bag ?p_l_take ?p_l_shares ?p_is_word ?p_is_whole ?p_is_within ?p_is_share_row ?p_refuse_shares ?p_due_at ?a_round_of ?l_round_of ?c_round_of ?k_round_of ?cc_round_of ?p_Door_begin ?p_Door_new_shares ?a_Door_init ?i_Door_init ?l_Door_init ?c_Door_init ?k_Door_init ?dt_Door_init ?p_l_model ?a_Unknown_init ?i_Unknown_init ?l_Unknown_init ?c_Unknown_init ?k_Unknown_init ?xm_Unknown_init ?xt_Unknown_init ?xk_Unknown_init ?a_Door_waits ?i_Door_waits ?l_Door_waits ?c_Door_waits ?k_Door_waits ?a_Door_ask ?i_Door_ask ?l_Door_ask ?c_Door_ask ?k_Door_ask ?p_l_told ?p_l_let_in ?p_l_begun ?p_l_other ?p_l_reshared ?p_Door_is_waited_at ?p_Door_owner ?p_Door_use ?p_l_used ?p_l_deed ?p_l_waits_right ?a_law ?l_law ?c_law ?k_law ?aC_Door ?pg_Door ?hd_Door ?po_Door ?sa_Door ?mk_Door ?kc_Door ?xg_BadShare ?xg_Known ?xg_PlaceError ?xg_Unknown ?xg1 ?xg2 ?x1_Unknown ?x2_Unknown ?x3_Unknown ?x4_Unknown ?x5_Unknown ?xf_e_Unknown_PlaceError ?xf_h_round_of ?xf_i_Unknown_Known_BadShare ?xf_i_Unknown_Unknown ?xf_i_Unknown_ValueError ?n_Door_asks_waiting ?n_Door_next_slot ?n_Door_number_led ?n_Door_owner_round ?n_Unknown_name ?b_ValueError ?b_abs ?b_all ?b_any ?b_bool ?b_enumerate ?b_int ?b_isinstance ?b_len ?b_list ?b_max ?b_min ?b_range ?b_str ?b_sum ?b_tuple ?g_LONGEST_WORD ?g_MOST_GROUPS ?g_MOST_SHARE ?g_MOST_WAITING
  (case p_l_bag=>walk_at "kf")
  (case p_l_take=>walk_at "kf")
  (case p_l_shares=>walk_at "kf")
  (case p_is_word=>walk_at "kf")
  (case p_is_whole=>walk_at "kf")
  (case p_is_within=>walk_at "kf")
  (case p_is_share_row=>walk_at "kf")
  (case p_refuse_shares=>walk_at "kf")
  (case p_due_at=>walk_at "kf")
  (case a_round_of=>k_is)
  (case l_round_of=>k_is)
  (case c_round_of=>k_is)
  (case k_round_of=>k_is)
  (case cc_round_of=>exact rfl)
  (case p_Door_begin=>walk_at "km")
  (case p_Door_new_shares=>walk_at "km")
  (case a_Door_init=>k_is)
  (case i_Door_init=>k_is)
  (case l_Door_init=>k_is)
  (case c_Door_init=>k_is)
  (case k_Door_init=>k_is)
  (case dt_Door_init=>k_is)
  (case p_l_model=>walk_at "kf")
  (case a_Unknown_init=>k_is)
  (case i_Unknown_init=>k_is)
  (case l_Unknown_init=>k_is)
  (case c_Unknown_init=>k_is)
  (case k_Unknown_init=>k_is)
  (case xm_Unknown_init=>kernel_rfl)
  (case xt_Unknown_init=>k_is)
  (case xk_Unknown_init=>k_is)
  (case a_Door_waits=>k_is)
  (case i_Door_waits=>k_is)
  (case l_Door_waits=>k_is)
  (case c_Door_waits=>k_is)
  (case k_Door_waits=>k_is)
  (case a_Door_ask=>k_is)
  (case i_Door_ask=>k_is)
  (case l_Door_ask=>k_is)
  (case c_Door_ask=>k_is)
  (case k_Door_ask=>k_is)
  (case p_l_told=>walk_at "kf")
  (case p_l_let_in=>walk_at "kf")
  (case p_l_begun=>walk_at "kf")
  (case p_l_other=>walk_at "kf")
  (case p_l_reshared=>walk_at "kf")
  (case p_Door_is_waited_at=>walk_at "km")
  (case p_Door_owner=>walk_at "km")
  (case p_Door_use=>walk_at "km")
  (case p_l_used=>walk_at "kf")
  (case p_l_deed=>walk_at "kf")
  (case p_l_waits_right=>walk_at "kf")
  (case a_law=>k_is)
  (case l_law=>k_is)
  (case c_law=>k_is)
  (case k_law=>k_is)
  (case aC_Door=>k_is)
  (case pg_Door=>k_is)
  (case hd_Door=>k_is)
  (case po_Door=>k_is)
  (case sa_Door=>k_is)
  (case mk_Door=>k_is)
  (case kc_Door=>k_is)
  (case xg_BadShare=>k_is)
  (case xg_Known=>k_is)
  (case xg_PlaceError=>k_is)
  (case xg_Unknown=>k_is)
  (case xg1=>k_is)
  (case xg2=>k_is)
  (case x1_Unknown=>kernel_rfl)
  (case x2_Unknown=>k_is)
  (case x3_Unknown=>k_is)
  (case x4_Unknown=>k_is)
  (case x5_Unknown=>k_is)
  (case xf_e_Unknown_PlaceError=>kernel_rfl)
  (case xf_h_round_of=>kernel_rfl)
  (case xf_i_Unknown_Known_BadShare=>kernel_rfl)
  (case xf_i_Unknown_Unknown=>kernel_rfl)
  (case xf_i_Unknown_ValueError=>kernel_rfl)
  (case n_Door_asks_waiting=>k_is)
  (case n_Door_next_slot=>k_is)
  (case n_Door_number_led=>k_is)
  (case n_Door_owner_round=>k_is)
  (case n_Unknown_name=>k_is)
  (case b_ValueError=>k_is)
  (case b_abs=>k_is)
  (case b_all=>k_is)
  (case b_any=>k_is)
  (case b_bool=>k_is)
  (case b_enumerate=>k_is)
  (case b_int=>k_is)
  (case b_isinstance=>k_is)
  (case b_len=>k_is)
  (case b_list=>k_is)
  (case b_max=>k_is)
  (case b_min=>k_is)
  (case b_range=>k_is)
  (case b_str=>k_is)
  (case b_sum=>k_is)
  (case b_tuple=>k_is)
  (case g_LONGEST_WORD=>k_is)
  (case g_MOST_GROUPS=>k_is)
  (case g_MOST_SHARE=>k_is)
  (case g_MOST_WAITING=>k_is)
