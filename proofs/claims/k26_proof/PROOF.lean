import PyProof.Rows.All
import Wide.All
import OpenK.AllK
import Wide.FinOn
import Lean
import PyProof.EqAt
import PyProof.EqKinds
import PyProof.TupleCall
import KE.KSortTup
import KE.KDictSum
import PyProof.Rows.Range3
import PyProof.Rows.SortRev
import PyProof.StrBlock2
import PyProof.ZipIter
import PyProof.Rows.ZipGen
import PyProof.NeKinds
import PyProof.DictCompW
import PyProof.DictWalks
import PyProof.AttrMissHeap
import PyProof.WalksS
import KE.KDictOf
import KE.KListMore
import KE.KEqDict
import PyProof.StationsW
import PyProof.InstStoreFacts
import PyProof.ExcBaseAll.ValueError
import PyProof.ExcClass2
import PyProof.RulesAs
import KE.KTryMore
import PyProof.ExcArgs
import KE.KIsAll
import OpenK.KOwn
import PyProof.P3In
import PyProof.DictUpdate
import PyProof.MeetsSeq2
import KE.KIntText
import KE.KRevSl
import PyProof.Rows.StrLawsPart
import PyProof.EnumMake
import PyProof.Draws
import PyProof.ListRange
import PyProof.TupleOfStr
import KE.KLam
import KE.KNestM
import KE.KMinKey
import PySem.Challenge.RW_placedworks_k26_ends_and_uses
open PySem renaming wpAny_bind→wb0,wpAny_pure→wp0
open List renaming length_map→lm
open Bool renaming false_ne_true→ft0,and_eq_true→ae00
open Nat renaming le_refl→lr0
set_option genSizeOf false
set_option genSizeOfSpec false
set_option bootstrap.genMatcherCode false
set_option Elab.async false
set_option linter.all false
set_option maxRecDepth 100000
abbrev FG:=PySem.W.Frag
abbrev PN:=List (PySem.Addr×PySem.Obj)
abbrev VP:=PySem.Value->PySem.Shared->Prop
abbrev ND(x:PySem.Str):Prop:=(x==("__debug__" : PySem.Str))=false
section
open PySem PySem.Spec PyProof.Rows
namespace L2
abbrev Key:=Sum Int Str
def pT:Key->Value->Bool
 | .inl k,v=>Value.isInt k v
 | .inr x,v=>Value.isStrOf x v
def amz(w:World):Key->Int
 | .inl k=>hashInt k
 | .inr x=>hashStr w x
theorem cq:∀ {k:Key} {v:Value},pT k v=true->(∃ i t,k=Sum.inl i/\v=Value.int i t)\/(∃ x t,k=Sum.inr x/\v=Value.str x t)
 | .inl i,v,h=>by obtain⟨t,e⟩:=Value.isInt_shape (k:=i) (v:=v) h;exact .inl ⟨i,t,rfl,e⟩
 | .inr x,v,h=>by obtain⟨t,e⟩:=Value.isStrOf_shape (x:=x) (v:=v) h;exact .inr ⟨x,t,rfl,e⟩
theorem abE(i:Int)(t:Tok):pT (.inl i) (.int i t)=true:=by simp[pT,Value.isInt]
theorem abm(x:Str)(t:Tok):pT (.inr x) (.str x t)=true:=by simp[pT,Value.isStrOf]
theorem ajR(a b:Int):decide ((Sum.inl a:Key)=Sum.inl b)=(a==b):=by
 by_cases e:a=b
 ·subst e;simp
 ·have h:¬ (Sum.inl a:Key)=Sum.inl b:=λ q=>e (Sum.inl.inj q);rw[decide_eq_false h];exact(beq_eq_false_iff_ne.mpr e).symm
theorem aiD(a b:Str):decide ((Sum.inr a:Key)=Sum.inr b)=decide (a=b):=by
 by_cases e:a=b
 ·subst e;simp
 ·have h:¬ (Sum.inr a:Key)=Sum.inr b:=λ q=>e (Sum.inr.inj q);rw[decide_eq_false h,decide_eq_false e]
theorem ahX(a:Int)(b:Str):decide ((Sum.inl a:Key)=Sum.inr b)=false:=decide_eq_false (λ q=>nomatch q)
theorem ahM(a:Str)(b:Int):decide ((Sum.inr a:Key)=Sum.inl b)=false:=decide_eq_false (λ q=>nomatch q)
def bt(prog:Program)(w:World):PySem.KeyKind prog w Key where
 is:=pT
 hash:=amz w
 inj:=λ v a b ha hb=>by
  rcases cq ha with ⟨i,t,rfl,rfl⟩ | ⟨x,t,rfl,rfl⟩
  ·rcases cq hb with ⟨j,u,rfl,e⟩ | ⟨y,u,rfl,e⟩
   ·injection e with e1 _;rw[e1]
   ·exact nomatch e
  ·rcases cq hb with ⟨j,u,rfl,e⟩ | ⟨y,u,rfl,e⟩
   ·exact nomatch e
   ·injection e with e1 _;rw[e1]
 byValue:=λ k v h=>by
  rcases cq h with ⟨i,t,rfl,rfl⟩ | ⟨x,t,rfl,rfl⟩<;>rfl
 pyHash:=λ hv h=>by
  rcases cq hv with ⟨i,t,rfl,rfl⟩ | ⟨x,t,rfl,rfl⟩
  ·exact wpAny_pyHash_int h
  ·exact wpAny_pyHash_str h
 eqBool:=λ hu hv h=>by
  rcases cq hu with ⟨i,t,rfl,rfl⟩ | ⟨x,t,rfl,rfl⟩
  ·rcases cq hv with ⟨j,u,rfl,rfl⟩ | ⟨y,u,rfl,rfl⟩
   ·rw[ajR] at h;exact wpAny_eqBool_int h
   ·rw[ahX] at h;exact SeqAt.EqAt.int_str i t y u _ _ _ _ h
  ·rcases cq hv with ⟨j,u,rfl,rfl⟩ | ⟨y,u,rfl,rfl⟩
   ·rw[ahM] at h;exact SeqAt.EqAt.str_int x t j u _ _ _ _ h
   ·rw[aiD] at h;exact wpAny_eqBool_str h
 «strs»:=λ k x t v h=>by
  rcases cq h with ⟨i,u,rfl,e⟩ | ⟨y,u,rfl,e⟩
  ·exact nomatch e
  ·injection e with e1 _
   subst e1;cases v<;>rfl
theorem yP(prog:Program)(w:World)(k:Key)(v:Value):(bt prog w).is k v=pT k v:=rfl
theorem wO(prog:Program)(w:World)(i:Int)(t:Tok):(bt prog w).is (.inl i) (.int i t)=true:=abE i t
theorem xk(prog:Program)(w:World)(x:Str)(t:Tok):(bt prog w).is (.inr x) (.str x t)=true:=abm x t
inductive V where
 | non | bl (b:Bool) | int (i:Int) | str (x:Str) | byt (b:Array UInt8) | flt (b:UInt64) | ref (a:Addr) | ty (n:String)
 deriving DecidableEq
def RelV:V->Value->Prop
 | .non,u=>u=Value.none
 | .bl b,u=>u=Value.bool b
 | .int i,u=>∃ t,u=Value.int i t
 | .str x,u=>∃ t,u=Value.str x t
 | .byt b,u=>∃ t,u=Value.bytes b t
 | .flt b,u=>∃ t,u=Value.float b t
 | .ref a,u=>u=Value.ref a
 | .ty n,u=>u=Value.type n
abbrev Vals:List V->List Value->Prop:=Paired RelV
theorem Vals.length(r:Vals xs us):xs.length=us.length:=Paired.length r
theorem Vals.get:∀ {xs:List V} {us:List Value} {i:Nat} {x:V},Vals xs us->xs[i]? =some x->∃ u,us[i]? =some u/\RelV x u
 | _,_,_,_,.nil,e=>by simp at e
 | _,_,0,_,.cons r _,e=>by simp at e;subst e;exact⟨_,rfl,r⟩
 | _,_,i+1,x,.cons _ t,e=>by obtain⟨u,h1,h2⟩:=Vals.get (i:=i) (x:=x) t (by simpa using e);exact⟨u,by simpa using h1,h2⟩
theorem Vals.set(r:RelV x u):∀ {xs:List V} {us:List Value} (i:Nat),Vals xs us->Vals (xs.set i x) (us.set i u)
 | _,_,_,.nil=>.nil
 | _,_,0,.cons _ t=>.cons r t
 | _,_,i+1,.cons q t=>.cons q (Vals.set r i t)
theorem Vals.append:∀ {xs ys:List V} {us ws:List Value},Vals xs us->Vals ys ws->Vals (xs++ys) (us++ws)
 | _,_,_,_,.nil,s=>s
 | _,_,_,_,.cons r t,s=>.cons r (Vals.append t s)
theorem Vals.take:∀ {xs:List V} {us:List Value} (n:Nat),Vals xs us->Vals (xs.take n) (us.take n)
 | _,_,0,_=>.nil
 | _,_,_+1,.nil=>.nil
 | _,_,n+1,.cons r t=>.cons r (Vals.take n t)
theorem Vals.drop:∀ {xs:List V} {us:List Value} (n:Nat),Vals xs us->Vals (xs.drop n) (us.drop n)
 | _,_,0,r=>r
 | _,_,_+1,.nil=>.nil
 | _,_,n+1,.cons _ t=>Vals.drop n t
def pA:Option V->Option Value->Prop
 | some v,some u=>RelV v u
 | none,none=>True
 | _,_=>False
def KV:List (κ×V)->List (κ×Value)->Prop:=Paired λ(p:κ×V) (q:κ×Value)=>p.1=q.1/\RelV p.2 q.2
def kV:Key->V
 | .inl i=>.int i
 | .inr x=>.str x
inductive HO where
 | lst (xs:List V)
 | tup (xs:List V)
 | dK (kvs:List (Key×V)) | dT (kvs:List (List Key×V))
 | set (S:Int->Bool) (n:Nat)
 | ins (C dx:Addr) (fs:List (Str×V))
 | own (x:Addr)
 | xd (fs:List (Str×V))
 | met (f x:Addr)
 | rng (lo hi:Int)
 | frz (o:Obj) (u:HO)
 | tbl (ps:Array Value)
 | ext (φ:Heap->Prop)
abbrev Hp:=Addr->Option HO
def upd(H:Hp)(a:Addr)(o:HO):Hp:=λ b=>if b=a then some o else H b
theorem aA:upd H a o a=some o:=by unfold upd;rw[if_pos rfl]
theorem aB(h:b≠a):upd H a o b=H b:=by unfold upd;rw[if_neg h]
theorem ab0:upd (upd H a o) a u=upd H a u:=by
 funext b;unfold upd;split<;>rfl
theorem afJ{H:Hp}{a b:Addr}{o u:HO}(h:H a=some o)(h':H b=some u)(d:o≠u):a≠b:=by intro e;subst e;rw[h] at h';exact d (Option.some.inj h')
theorem bI{H:Hp}{a b:Addr}{o:HO}(h:H a=some o)(h':H b=none):a≠b:=by intro e;subst e;rw[h] at h';cases h'
def aeh(h:Heap)(a:Addr)(items:Array Value):Prop:=∃ o,h.get? a=some o/\o.cls=.type "tuple" /\ o.dict=none/\∃ n,o.data=.seq items n
theorem aeh.tup(x:aeh h a items):IsTup h a items:=let ⟨o,h1,h2,_,h3⟩:=x; ⟨o,h1,h2,h3⟩
theorem aeh.new(h:Heap)(items:Array Value):aeh (h.push {cls:=.type "tuple",data:=.seq items}) h.objs.size items:=⟨_,Heap.get?_push_size _ rfl,rfl,rfl,_,rfl⟩
section
variable (P:Program)(w:World)
def cZ(H:Hp)(h:Heap)(a:Addr):HO->Prop
 | .lst xs=>xs.length<=sizeLine/\∃ (its:List Value) (n:Nat),Vals xs its/\h.get? a=some {cls:=.type "list",data:=.seq its.toArray n}
 | .tup xs=>xs.length<=sizeLine/\∃ its:List Value,Vals xs its/\aeh h a its.toArray
 | .dK kvs=>kvs.length<=sizeLine/\(a==sysModules)=false/\∃ vs,KV kvs vs/\h.DictOf (bt P w) a vs
 | .dT kvs=>kvs.length<=sizeLine/\(a==sysModules)=false/\∃ xs:List (List Key×Addr×Value),
   Paired (λ(p:List Key×V) (q:List Key×Addr×Value)=>p.1=q.1/\H q.2.1=some (.tup (p.1.map kV))/\RelV p.2 q.2.2) kvs xs /\
   ∃ o es ep,h.get? a=some o/\o.ExactDict/\o.data=.dict es ep/\es.toList=xs.map (entryOfKey (tupleKind (bt P w)))/\(xs.map (·.1)).Nodup
 | .set S n=>h.SetOf (intKind P w) a S n
 | .ins C dx fs=>H dx=some (.own a)/\fs.length<=1000/\dx≠a/\h.get? a=some (W.instObj C dx) /\
   ∃ mA,h.Ns1 dx mA/\(∀ f,pA (fs.lookup f) (mA f))/\PySem.Within mA (fs.map (·.1))
 | .own _=>∃ o,h.get? a=some o
 | .xd fs=>∃ mA,h.Ns1 a mA/\∀ f,pA (fs.lookup f) (mA f)
 | .rng lo hi=>∃ t u v,h.get? a=some {cls:=.type "range",data:=.fields #[.int lo t,.int hi u,.int 1 v]}
 | .frz o u=>h.get? a=some o/\cZ H h a u
 | .tbl ps=>h.get? a=some {cls:=.none,data:=.fields ps}
 | .met f x=>h.get? a=some (W.methodObj (.ref f) (.ref x))
 | .ext φ=>φ h/\(∃ o,h.get? a=some o)/\∀ h1 h2:Heap,φ h1->(∀ o,h1.get? a=some o->h2.get? a=some o)->φ h2
def HOk(H:Hp)(h:Heap):Prop:=∀ a o,H a=some o->cZ P w H h a o
end
section
variable {P:Program}{w:World}{H H':Hp}{h h':Heap}{a:Addr}{o:HO}
theorem cZ.lt(x:cZ P w H h a o):a<h.objs.size:=by
 cases o with
 | lst xs=>obtain⟨_,_,_,_,e⟩:=x;exact Heap.lt_size e
 | tup xs=>obtain⟨_,_,_,p⟩:=x;exact p.tup.lt
 | dK kvs=>obtain⟨_,_,_,_,o,_,_,e,_⟩:=x;exact Heap.lt_size e
 | dT kvs=>obtain⟨_,_,_,_,o,_,_,e,_⟩:=x;exact Heap.lt_size e
 | set S n=>obtain⟨o,_,_,_,e,_⟩:=x;exact Heap.lt_size e
 | ins C dx fs=>obtain⟨_,_,_,e,_⟩:=x;exact Heap.lt_size e
 | own y=>obtain⟨_,e⟩:=x;exact Heap.lt_size e
 | xd fs=>obtain⟨_,⟨_,_,_,e,_⟩,_⟩:=x;exact Heap.lt_size e
 | rng lo hi=>obtain⟨_,_,_,e⟩:=x;exact Heap.lt_size e
 | frz ob u=>obtain⟨e,_⟩:=x;exact Heap.lt_size e
 | tbl ps=>exact Heap.lt_size (show h.get? a=some _ from x)
 | met f y=>exact Heap.lt_size (show h.get? a=some _ from x)
 | ext φ=>obtain⟨_,⟨_,e⟩,_⟩:=x;exact Heap.lt_size e
theorem Paired.lV:∀ {l₁:List α} {l₂:List β},Paired F l₁ l₂->(∀ a b,F a b->G a b)->Paired G l₁ l₂
 | _,_,.nil,_=>.nil
 | _,_,.cons r t,f=>.cons (f _ _ r) (Paired.lV t f)
theorem cZ.vB(x:cZ P w H h a o)(k:∀ b u,(b=a\/H b=some (.own a))->h.get? b=some u->h'.get? b=some u)
  (ho:∀ b,H b=some (.own a)->H' b=some (.own a))(ht:∀ b xs,H b=some (.tup xs)->H' b=some (.tup xs)):cZ P w H' h' a o:=by
 induction o with
 | lst xs=>obtain⟨z,its,n,r,e⟩:=x;exact⟨z,its,n,r,k _ _ (.inl rfl) e⟩
 | tup xs=>obtain⟨z,its,r,ob,e,c⟩:=x;exact⟨z,its,r,ob,k _ _ (.inl rfl) e,c⟩
 | dK kvs=>obtain⟨z,y,vs,r,ob,es,ep,e,c⟩:=x;exact⟨z,y,vs,r,ob,es,ep,k _ _ (.inl rfl) e,c⟩
 | dT kvs =>
  obtain⟨z,y,xs,r,ob,es,ep,e,c⟩:=x;exact⟨z,y,xs,Paired.lV r λ p q z=>⟨z.1,ht _ _ z.2.1,z.2.2⟩,ob,es,ep,k _ _ (.inl rfl) e,c⟩
 | set S n=>obtain⟨ob,es,ep,t,e,c⟩:=x;exact⟨ob,es,ep,t,k _ _ (.inl rfl) e,c⟩
 | ins C dx fs =>
  obtain⟨d,z,ne,e,mA,⟨od,es,ep,e2,c⟩,r⟩:=x;exact⟨ho _ d,z,ne,k _ _ (.inl rfl) e,mA,⟨od,es,ep,k _ _ (.inr d) e2,c⟩,r⟩
 | own y=>obtain⟨ob,e⟩:=x;exact⟨ob,k _ _ (.inl rfl) e⟩
 | xd fs=>obtain⟨mA,⟨od,es,ep,e,c⟩,r⟩:=x;exact⟨mA,⟨od,es,ep,k _ _ (.inl rfl) e,c⟩,r⟩
 | rng lo hi=>obtain⟨t,u,v,e⟩:=x;exact⟨t,u,v,k _ _ (.inl rfl) e⟩
 | frz ob u ih=>obtain⟨e,q⟩:=x;exact⟨k _ _ (.inl rfl) e,ih q⟩
 | tbl ps =>
  have e:h.get? a=some {cls:=.none,data:=.fields ps}:=x;show h'.get? a=some {cls:=.none,data:=.fields ps};exact k a _ (.inl rfl) e
 | met f y =>
  have e:h.get? a=some (W.methodObj (.ref f) (.ref y)):=x;show h'.get? a=some (W.methodObj (.ref f) (.ref y));exact k a _ (.inl rfl) e
 | ext φ=>obtain⟨p,⟨o,e⟩,st⟩:=x;exact⟨st _ _ p λ o q=>k _ _ (.inl rfl) q,⟨o,k _ _ (.inl rfl) e⟩,st⟩
theorem HOk.lt(x:HOk P w H h)(e:H a=some o):a<h.objs.size:=(x a o e).lt
theorem HOk.fresh(x:HOk P w H h)(e:h.objs.size<=a):H a=none:=by
 cases q:H a with
 | none=>rfl
 | some u=>exact absurd (Nat.lt_of_lt_of_le (x.lt q) e) (Nat.lt_irrefl _)
theorem HOk.kept(x:HOk P w H h)(k:∀ b u,h.get? b=some u->h'.get? b=some u):HOk P w H h':=λ a o e =>
 (x a o e).vB (λ b u _ q=>k b u q) (λ _ q=>q) λ _ _ q=>q
theorem HOk.laid(x:HOk P w H h)(k:∀ b u,h.get? b=some u->h'.get? b=some u)(hp:h.objs.size<=a)(new:cZ P w (upd H a o) h' a o):HOk P w (upd H a o) h':=λ b u e=>by
 have hn:=x.fresh hp
 by_cases hb:b=a
 ·subst hb;rw[aA] at e;cases e;exact new
 ·rw[aB hb] at e;exact(x b u e).vB (λ c v _ q=>k c v q) (λ c q=>by rw[aB (bI q hn)];exact q) λ c xs q=>by rw[aB (bI q hn)];exact q
end
def Rd(H:Hp)(a:Addr)(u:HO):Prop:=H a=some u\/∃ o,H a=some (.frz o u)
theorem Rd.ok(r:Rd H a u)(x:HOk P w H h):cZ P w H h a u:=by
 rcases r with r | ⟨o,r⟩
 ·exact x a u r
 ·obtain⟨_,q⟩:=x a _ r;exact q
def Mut:Option HO->Prop
 | some (.lst _)=>True
 | some (.dK _)=>True
 | some (.dT _)=>True
 | some (.set _ _)=>True
 | some (.ins _ _ _)=>True
 | some (.ext _)=>True
 | _=>False
section
variable {P:Program}{w:World}{H:Hp}{h h':Heap}{x e:Addr}{o':HO}
theorem HOk.write(ok:HOk P w H h)(mu:Mut (H x))(he:e=x\/H e=some (.own x))(k:∀ b u,b≠e->h.get? b=some u->h'.get? b=some u)(heo:∃ u,h'.get? e=some u)
  (new:cZ P w (upd H x o') h' x o'):HOk P w (upd H x o') h':=λ b u q=>by
 have nown:∀ c y,H c=some (.own y)->c≠x:=λ c y r z=>by subst z;rw[r] at mu;exact mu
 have ntup:∀ c xs,H c=some (.tup xs)->c≠x:=λ c xs r z=>by subst z;rw[r] at mu;exact mu
 by_cases hb:b=x
 ·subst hb;rw[aA] at q;cases q;exact new
 ·rw[aB hb] at q
  by_cases hbe:b=e
  ·have q':H b=some (.own x):=by
    rcases he with z | z
    ·exact absurd (hbe.trans z) hb
    ·rw[hbe];exact z
   rw[q] at q';cases q';obtain⟨v,hv⟩:=heo;exact⟨v,by rw[hbe];exact hv⟩
  ·refine(ok b u q).vB (λ c v hc r=>k c v ?_ r) (λ c r=>by rw[aB (nown c b r)];exact r) λ c xs r=>by rw[aB (ntup c xs r)];exact r
   rcases hc with rfl | hc
   ·exact hbe
   ·rintro rfl;rcases he with z | z
    ·exact nown c b hc z
    ·rw[hc] at z;cases z;exact hb rfl
end
structure Un(fs ex:List Addr)(H H':Hp)(h h':Heap):Prop where
 keep:∀ b o,h.get? b=some o->H b=none->b ∉ fs->b ∉ ex->h'.get? b=some o
 slot:∀ b o,h.get? b=some o->H b=none->b∈fs->b ∉ ex->∃ sl,h'.get? b=some {o with slots:=sl}
 free:∀ b o,h.get? b=some o->H b=none->b ∉ ex->H' b=none
 there:∀ b o,h.get? b=some o->b ∉ ex->∃ o',h'.get? b=some o'
 tups:∀ b xs,H b=some (.tup xs)->H' b=some (.tup xs)
 frzs:∀ b o u,H b=some (.frz o u)->H' b=some (.frz o u)
 tbls:∀ b ps,H b=some (.tbl ps)->∃ more,H' b=some (.tbl (ps++more))
theorem Un.any(u:Un fs ex H H1 h h1){b:Addr}{ob:Obj}(q:h.get? b=some ob)(n:H b=none)(hx:b ∉ ex):∃ sl,h1.get? b=some {ob with slots:=sl}:=by
 by_cases hb:b∈fs
 ·exact u.slot b ob q n hb hx
 ·exact⟨ob.slots,u.keep b ob q n hb hx⟩
theorem Un.kept(k:∀ b u,h.get? b=some u->h'.get? b=some u):Un fs ex H H h h':=
 ⟨λ b ob q _ _ _=>k b ob q,λ b ob q _ _ _=>⟨ob.slots,k b ob q⟩,λ _ _ _ n _=>n,λ b ob q _=>⟨ob,k b ob q⟩,λ _ _ q=>q,λ _ _ _ q=>q,λ _ ps q=>⟨#[],by rw[q];simp⟩⟩
theorem Un.refl:Un fs ex H H h h:=Un.kept λ _ _ q=>q
theorem Un.laid(k:∀ b u,h.get? b=some u->h'.get? b=some u)(hp:h.objs.size<=a)(hn:H a=none):Un fs ex H (upd H a o) h h' where
 keep:=λ b u q _ _ _=>k b u q
 slot:=λ b u q _ _ _=>⟨u.slots,k b u q⟩
 free:=λ b u q n _=>by rw[aB (Nat.ne_of_lt (Nat.lt_of_lt_of_le (Heap.lt_size q) hp))];exact n
 there:=λ b u q _=>⟨u,k b u q⟩
 tups:=λ b xs q=>by rw[aB (bI q hn)];exact q
 frzs:=λ b u xs q=>by rw[aB (bI q hn)];exact q
 tbls:=λ b ps q=>⟨#[],by rw[aB (bI q hn),q];simp⟩
theorem Un.write(mu:Mut (H x))(he:e=x\/H e=some (.own x))(k:∀ b u,b≠e->h.get? b=some u->h'.get? b=some u)(heo:∃ u,h'.get? e=some u):Un fs ex H (upd H x o) h h':=by
 have hx:∀ b,H b=none->b≠x:=λ b n z=>by subst z;rw[n] at mu;exact mu
 have hb:∀ b,H b=none->b≠e:=λ b n z=>by
  subst z;rcases he with r | r
  ·exact hx b n r
  ·rw[n] at r;cases r
 have hm:∀ b u,H b=some u->¬ Mut (some u)->b≠x:=λ b u q nm z=>by subst z;rw[q] at mu;exact nm mu
 refine⟨λ b u q n _ _=>k b u (hb b n) q,λ b u q n _ _=>⟨u.slots,k b u (hb b n) q⟩,λ b u q n _=>by rw[aB (hx b n)];exact n,λ b u q _=>?_,
  λ b xs q=>by rw[aB (hm b _ q λ z=>z)];exact q,λ b u xs q=>by rw[aB (hm b _ q λ z=>z)];exact q,λ b ps q=>⟨#[],by rw[aB (hm b _ q λ z=>z),q];simp⟩⟩
 by_cases hbe:b=e
 ·subst hbe;exact heo
 ·exact⟨u,k b u hbe q⟩
def trk(h:Heap)(H:Hp):List Addr:=(List.range h.objs.size).filter λ a=>(H a).isSome
def aeg(h:Heap)(H:Hp):Heap:=W.hideAll h (trk h H)
theorem zT(h:Heap)(H:Hp):(aeg h H).objs.size=h.objs.size:=W.hideAll_size _ _
theorem ade(e:h.get? b=some o)(n:H b=none):(aeg h H).get? b=some o:=
 W.hideAll_get _ e λ hm=>by have q:(H b).isSome=true:=(List.mem_filter.mp hm).2;rw[n] at q;simp at q
theorem agE(e:(aeg h H).get? b=some o):h.get? b=some o/\H b=none:=by
 have e':h.get? b=some o:=W.of_hideAll (trk h H) e;refine⟨e',?_⟩;cases q:H b with
 | none=>rfl
 | some x =>
  have hm:b∈trk h H:=List.mem_filter.mpr ⟨List.mem_range.mpr (Heap.lt_size e'),by simp[q]⟩;have z:(aeg h H).get? b=none:=W.hideAll_none (trk h H) hm;rw[z] at e;cases e
def BM(mg:Str->Option Value)(h:Heap):Prop:=(∃ bm o,mg "__builtins__" = some (.ref bm)/\bm≠builtinsNs/\h.get? bm=some o/\o.cls=.type "module" /\ o.dict=some builtinsNs/\o.data=.plain)/\∃ mm,h.Ns sysModules mm
structure Mod(K:FG)(mg:Str->Option Value)(base:Heap):Prop where
 kin:K.In base
 glob:base.Ns mainGlobals mg
 blt:∃ mb,base.Ns builtinsNs mb/\∀ x:Str,x ≠ "__name__" -> mb x=bootBuiltins x
 nolimit:base.NoLimit
 bm:BM mg base
structure Cx where
 prog:Program
 w:World
 K:FG
 mg:Str->Option Value
 base:Heap
 A:Around
 N:List Str
 s₀:Shared
 H₀:Hp
 env:Env
 outer:List Env
 stack:List Env
 ex:List Addr
 fn:Str->Bool
 calm:Bool
 pn:PN
 xe:VP
def frs(l:List Env):List Addr:=l.filterMap (·.frame)
abbrev Cx.fs(X:Cx):List Addr:=frs X.outer
def Vis(sc:Scope)(x:Str):Prop:=sc.names.lookup x=some .local\/sc.names.lookup x=some .cell\/sc.names.lookup x=some .free
def Loc(sc:Scope)(x:Str):Prop:=sc.names.lookup x=some .local\/sc.names.lookup x=some .cell
def Look(env:Env)(h:Heap)(m:Str->Option Value)(x:Str)(u:Value):Prop:=
 (env.kindOf x=some .local/\m x=some u)\/((env.kindOf x=some .cell\/env.kindOf x=some .free)/\∃ c,env.cells.lookup x=some c/\h.IsCell c (some u))
structure Cx.Ok(X:Cx):Prop where
 mod:Mod X.K X.mg X.base
 kind:X.env.scope.kind=.function
 glob:X.env.globals=mainGlobals
 blt:X.env.builtins=builtinsNs
 above:X.s₀.heap.objs.size<=X.env.locals
 inj:∀ x y c,X.env.cells.lookup x=some c->X.env.cells.lookup y=some c->x=y
 has:∀ x,(X.env.kindOf x=some .cell\/X.env.kindOf x=some .free)->∃ c,X.env.cells.lookup x=some c
 cab:∀ x c,X.fn x=true->X.env.cells.lookup x=some c->X.s₀.heap.objs.size<=c
 hd:X.calm=true->X.A.handled=none
 frames:X.A.frames=some X.stack
 stk:X.stack=X.outer\/(X.stack=X.env::X.outer/\X.env.frame=some X.env.locals)
 exf:∀ b∈X.ex,b≠X.env.locals/\∀ x c,X.env.cells.lookup x=some c->c≠b
 bs:∀ b o,X.base.get? b=some o->X.s₀.heap.get? b=some o/\X.H₀ b=none
 bsz:X.base.objs.size<=X.s₀.heap.objs.size
 noex:∀ b o,X.base.get? b=some o->b ∉ X.ex
 exfs:∀ b∈X.ex,b ∉ X.fs
 sI:X.s₀.heap.FunFrames X.base X.outer
 frf:∀ b∈X.fs,X.H₀ b=none
structure Inv(X:Cx)(pins:PN)(σ:List (Option V))(H:Hp)(s:Shared):Prop where
 ok:X.Ok
 os:s.os=X.s₀.os
 bare:AllBare s.gens
 base:Un X.fs X.ex X.H₀ H X.s₀.heap s.heap
 loc:∃ m,s.heap.Ns X.env.locals m/\∀ (i:Nat) (x:Str) (v:V),X.N[i]? =some x->σ[i]? =some (some v)->Vis X.env.scope x->∃ u,RelV v u/\Look X.env s.heap m x u
 cell:∀ x c,X.env.cells.lookup x=some c->∃ v,s.heap.IsCell c v
 free:H X.env.locals=none
 freeC:∀ x c,X.env.cells.lookup x=some c->H c=none
 pin:∀ p∈X.pn++pins,s.heap.get? p.1=some p.2/\H p.1=none/\p.1≠X.env.locals/\p.1 ∉ X.fs/\∀ v,p.2.data ≠ .cell v
 hok:HOk X.prog X.w H s.heap
 len:σ.length=X.N.length
section
variable {X:Cx}{pins:PN}{σ:List (Option V)}{H H':Hp}{s:Shared}{h':Heap}
theorem Cx.Ok.amN(ok:X.Ok)(e:X.base.get? b=some o):b ∉ X.fs:=λ hb=>by have:=(ok.sI.mem hb).1;rw[e] at this;cases this
theorem Inv.bs(I:Inv X pins σ H s):∀ b o,X.base.get? b=some o->s.heap.get? b=some o/\H b=none:=λ b o e =>
 ⟨I.base.keep b o (I.ok.bs b o e).1 (I.ok.bs b o e).2 (I.ok.amN e) (I.ok.noex b o e),I.base.free b o (I.ok.bs b o e).1 (I.ok.bs b o e).2 (I.ok.noex b o e)⟩
theorem Inv.bk(I:Inv X pins σ H s):∀ b o,X.base.get? b=some o->s.heap.get? b=some o:=λ b o e=>(I.bs b o e).1
theorem Inv.mod(I:Inv X pins σ H s):Mod X.K X.mg X.base:=I.ok.mod
theorem Inv.kIn(I:Inv X pins σ H s):X.K.In s.heap:=I.ok.mod.kin.keeps I.bk
theorem Inv.fr(I:Inv X pins σ H s):∃ m,Fr X.base X.env.locals s.heap m:=
 let ⟨m,hn,_⟩:=I.loc
 ⟨m,hn,I.bk,Nat.le_trans I.ok.bsz I.ok.above⟩
theorem Inv.lt(I:Inv X pins σ H s):X.env.locals<s.heap.objs.size:=let ⟨_,hn,_⟩:=I.loc;hn.lt
theorem Inv.sz(I:Inv X pins σ H s):X.s₀.heap.objs.size<=s.heap.objs.size:=Nat.le_trans I.ok.above (Nat.le_of_lt I.lt)
theorem Inv.alK(I:Inv X pins σ H s)(h:s.heap.objs.size<=a):a ∉ X.fs:=λ hb=>by obtain⟨_,o,ho,_⟩:=I.ok.sI.mem hb;exact absurd (Nat.lt_of_lt_of_le (Heap.lt_size ho) (Nat.le_trans I.sz h)) (Nat.lt_irrefl _)
theorem Inv.cne(I:Inv X pins σ H s):∀ x c,X.env.cells.lookup x=some c->c≠X.env.locals:=λ x c e z=>by obtain⟨v,o,ho,hd⟩:=I.cell x c e;obtain⟨m,⟨o',es,ep,ho',hd',_⟩,_⟩:=I.loc;rw[z,ho'] at ho;cases ho;rw[hd'] at hd;cases hd
theorem Inv.sI(I:Inv X pins σ H s):s.heap.FunFrames X.base X.outer:=by
 have all:∀ (l:List Env),(∀ b∈frs l,b∈X.fs)->X.s₀.heap.FunFrames X.base l->s.heap.FunFrames X.base l:=by
  intro l
  induction l with
  | nil=>intro _ _;trivial
  | cons env r ih =>
   intro hs hl;obtain⟨hk,⟨L,o,hf,hn,ho,hd⟩,hr⟩:=hl;have hL:L∈X.fs:=hs L (by unfold frs;rw[List.filterMap_cons,hf];exact List.mem_cons_self);obtain⟨sl,e⟩:=I.base.slot L o ho (I.ok.frf L hL) hL λ z=>I.ok.exfs L z hL;exact⟨hk,⟨L,_,hf,hn,e,hd⟩,ih (λ b hb=>hs b (by unfold frs;rw[List.filterMap_cons,hf];exact List.mem_cons_of_mem _ hb)) hr⟩
 exact all X.outer (λ _ hb=>hb) I.ok.sI
theorem Inv.stack(I:Inv X pins σ H s):s.heap.FunFrames X.base X.stack:=by
 rcases I.ok.stk with e | ⟨e,hf⟩
 ·rw[e];exact I.sI
 ·rw[e];obtain⟨m,hn,_⟩:=I.loc;refine .cons (by rw[I.ok.kind];decide) hf hn ?_ I.sI;exact Heap.get?_none_of_le (Nat.le_trans I.ok.bsz I.ok.above)
theorem Inv.qj(I:Inv X pins σ H s):∀ b∈frs X.stack,b∈X.env.locals::X.fs:=λ b hb=>by
 rcases I.ok.stk with e | ⟨e,hf⟩
 ·rw[e] at hb;exact List.mem_cons_of_mem _ hb
 ·rw[e] at hb;unfold frs at hb;rw[List.filterMap_cons,hf] at hb;exact hb
theorem Inv.xq(I:Inv X pins σ H s):∀ b∈frs X.stack,H b=none:=λ b hb=>by
 rcases List.mem_cons.mp (I.qj b hb) with e | hb
 ·rw[e];exact I.free
 ·obtain⟨_,o,ho,_⟩:=I.ok.sI.mem hb;exact I.base.free b o ho (I.ok.frf b hb) λ z=>I.ok.exfs b z hb
theorem Inv.step{g':Array GenState}{t':Nat}{d':Drawn}{ch:List Addr}(I:Inv X pins σ H s)
  (hch:∀ b∈ch,(b∈X.ex\/X.s₀.heap.objs.size<=b)/\b≠X.env.locals/\(∀ x c,X.env.cells.lookup x=some c->c≠b)/\∀ p∈X.pn++pins,p.1≠b)
  (keep:∀ b o,b≠X.env.locals->b ∉ X.fs->b ∉ ch->s.heap.get? b=some o->H b=none->h'.get? b=some o)
  (slot:∀ b o,b≠X.env.locals->b∈X.fs->b ∉ ch->s.heap.get? b=some o->H b=none->∃ sl,h'.get? b=some {o with slots:=sl})(free:∀ b o,b ∉ ch->s.heap.get? b=some o->H b=none->H' b=none)
  (there:∀ b o,b ∉ ch->s.heap.get? b=some o->∃ o',h'.get? b=some o')
  (tups:∀ b xs,H b=some (.tup xs)->H' b=some (.tup xs))(frzs:∀ b o u,H b=some (.frz o u)->H' b=some (.frz o u))(tbls:∀ b ps,H b=some (.tbl ps)->∃ more,H' b=some (.tbl (ps++more)))
  (ns:∀ m,s.heap.Ns X.env.locals m->h'.Ns X.env.locals m)(hok:HOk X.prog X.w H' h')(hg:AllBare g') :
  Inv X pins σ H' {s with heap:=h',gens:=g',drawn:=d',toks:=t'}:=by
 have neL:∀ b o,X.s₀.heap.get? b=some o->b≠X.env.locals:=λ b o e=>Nat.ne_of_lt (Nat.lt_of_lt_of_le (Heap.lt_size e) I.ok.above);have neC:∀ b o,X.s₀.heap.get? b=some o->b ∉ X.ex->b ∉ ch:=λ b o e hx hb=>by
  rcases(hch b hb).1 with z | z
  ·exact hx z
  ·exact absurd (Nat.lt_of_lt_of_le (Heap.lt_size e) z) (Nat.lt_irrefl _)
 have cellK:∀ x c,X.env.cells.lookup x=some c->∀ v,s.heap.IsCell c v->h'.IsCell c v:=λ x c e v hq0=>by
  obtain⟨o,ho,hd⟩:=hq0;have nch:c ∉ ch:=λ z=>(hch c z).2.2.1 x c e rfl
  by_cases hc:c∈X.fs
  ·obtain⟨sl,q⟩:=slot c o (I.cne x c e) hc nch ho (I.freeC x c e);exact⟨_,q,hd⟩
  ·exact⟨o,keep c o (I.cne x c e) hc nch ho (I.freeC x c e),hd⟩
 refine⟨I.ok,I.os,hg,⟨λ b o e n hb hx=>?_,λ b o e n hb hx=>?_,λ b o e n hx=>?_,λ b o e hx=>?_,λ b xs e=>tups b xs (I.base.tups b xs e),λ b o xs e=>frzs b o xs (I.base.frzs b o xs e),λ b ps e=>?_⟩,?_,λ x c e=>?_,?_,λ x c e=>?_,λ p hp=>?_,hok,I.len⟩
 ·exact keep b o (neL b o e) hb (neC b o e hx) (I.base.keep b o e n hb hx) (I.base.free b o e n hx)
 ·obtain⟨sl,e1⟩:=I.base.slot b o e n hb hx;obtain⟨sl',e2⟩:=slot b _ (neL b o e) hb (neC b o e hx) e1 (I.base.free b o e n hx);exact⟨sl',e2⟩
 ·obtain⟨o',e1⟩:=I.base.there b o e hx;exact free b o' (neC b o e hx) e1 (I.base.free b o e n hx)
 ·obtain⟨o',e1⟩:=I.base.there b o e hx;exact there b o' (neC b o e hx) e1
 ·obtain⟨m1,e1⟩:=I.base.tbls b ps e;obtain⟨m2,e2⟩:=tbls b _ e1;exact⟨m1++m2,by rw[e2,Array.append_assoc]⟩
 ·obtain⟨m,hn,hl⟩:=I.loc;refine⟨m,ns m hn,λ i x v e1 e2 e3=>?_⟩;obtain⟨u,r,l⟩:=hl i x v e1 e2 e3;refine⟨u,r,?_⟩;rcases l with l | ⟨k,c,e,z⟩
  ·exact .inl l
  ·exact .inr ⟨k,c,e,cellK x c e _ z⟩
 ·obtain⟨v,z⟩:=I.cell x c e;exact⟨v,cellK x c e v z⟩
 ·obtain⟨m,⟨o,_,_,ho,_⟩,_⟩:=I.loc;exact free _ o (λ z=>(hch _ z).2.1 rfl) ho I.free
 ·obtain⟨v,o,ho,hd⟩:=I.cell x c e;exact free c o (λ z=>(hch c z).2.2.1 x c e rfl) ho (I.freeC x c e)
 ·obtain⟨e,n,ne,nf,d⟩:=I.pin p hp;have nch:p.1 ∉ ch:=λ z=>(hch p.1 z).2.2.2 p hp rfl;exact⟨keep p.1 p.2 ne nf nch e n,free p.1 p.2 nch e n,ne,nf,d⟩
theorem Inv.un{t':Nat}(I:Inv X pins σ H s)(u:Un X.fs [] H H' s.heap h')(hok:HOk X.prog X.w H' h'):Inv X pins σ H' {s with heap:=h',toks:=t'}:=by
 obtain⟨m,⟨o,es,ep,ho,r⟩,_⟩:=id I.loc;obtain⟨sl,hL⟩:=u.any ho I.free (by simp);exact I.step (g':=s.gens) (d':=s.drawn) (ch:=[]) (λ _ z=>nomatch z) (λ b o _ hb _ e n=>u.keep b o e n hb (by simp)) (λ b o _ hb _ e n=>u.slot b o e n hb (by simp)) (λ b o _ e n=>u.free b o e n (by simp)) (λ b o _ e=>u.there b o e (by simp)) u.tups u.frzs u.tbls (λ m' hm=>by obtain⟨o',es',ep',ho',r'⟩:=hm;rw[ho] at ho';cases ho';exact⟨_,es',ep',hL,r'⟩) hok I.bare
theorem Inv.call{g':Array GenState}{t':Nat}{d':Drawn}{ch:List Addr}(I:Inv X pins σ H s)(u:Un (frs X.stack) ch H H' s.heap h')(hok:HOk X.prog X.w H' h')(hg:AllBare g')
  (hch:∀ b∈ch,(b∈X.ex\/X.s₀.heap.objs.size<=b)/\b≠X.env.locals/\(∀ x c,X.env.cells.lookup x=some c->c≠b)/\∀ p∈X.pn++pins,p.1≠b) :
  Inv X pins σ H' {s with heap:=h',gens:=g',drawn:=d',toks:=t'}:=by
 obtain⟨m,⟨o,es,ep,ho,r⟩,_⟩:=id I.loc;obtain⟨sl,hL⟩:=u.any ho I.free λ z=>(hch _ z).2.1 rfl;exact I.step (ch:=ch) hch (λ b o hL hb hc e n=>u.keep b o e n (λ z=>(List.mem_cons.mp (I.qj b z)).elim hL hb) hc) (λ b o _ _ hc e n=>u.any e n hc) (λ b o hc e n=>u.free b o e n hc) (λ b o hc e=>u.there b o e hc) u.tups u.frzs u.tbls (λ m' hm=>by obtain⟨o',es',ep',ho',r'⟩:=hm;rw[ho] at ho';cases ho';exact⟨_,es',ep',hL,r'⟩) hok hg
theorem Inv.turned{t':Nat}{it:Addr}(I:Inv X pins σ H s)(k:∀ b o,b≠it->s.heap.get? b=some o->h'.get? b=some o)(hn:H it=none)(hL:it≠X.env.locals)
  (h1:it∈X.ex\/X.s₀.heap.objs.size<=it)(h2:∀ x c,X.env.cells.lookup x=some c->c≠it)(h3:∀ p∈X.pn++pins,p.1≠it):Inv X pins σ H {s with heap:=h',toks:=t'}:=by
 have nit:∀ b u,H b=some u->b≠it:=λ b u e z=>by rw[z,hn] at e;cases e
 refine I.step (g':=s.gens) (d':=s.drawn) (ch:=[it]) (λ b hb=>?_) (λ b o _ _ hc e _=>k b o (λ z=>hc (by simp[z])) e) (λ b o _ _ hc e _=>⟨o.slots,k b o (λ z=>hc (by simp[z])) e⟩) (λ _ _ _ _ n=>n)
  (λ b o hc e=>⟨o,k b o (λ z=>hc (by simp[z])) e⟩) (λ _ _ e=>e) (λ _ _ _ e=>e) (λ b ps e=>⟨#[],by rw[e];simp⟩) (λ m hm=>?_) (λ b u e=>?_) I.bare
 ·have e:b=it:=by simpa using hb
  subst e;exact⟨h1,hL,h2,h3⟩
 ·obtain⟨o,es,ep,ho,r⟩:=hm;exact⟨o,es,ep,k _ o (Ne.symm hL) ho,r⟩
 ·refine(I.hok b u e).vB (λ c v hc q=>k c v ?_ q) (λ _ q=>q) λ _ _ q=>q;rcases hc with z | z
  ·rw[z];exact nit b u e
  ·exact nit c _ z
theorem Inv.tok(I:Inv X pins σ H s)(t:Nat):Inv X pins σ H {s with toks:=t}:=I.un (h':=s.heap) (t':=t) Un.refl I.hok
theorem Inv.kept(I:Inv X pins σ H s)(k:∀ b u,s.heap.get? b=some u->h'.get? b=some u):Inv X pins σ H {s with heap:=h',toks:=t'}:=I.un (Un.kept k) (I.hok.kept k)
theorem Inv.laid(I:Inv X pins σ H s)(k:∀ b u,s.heap.get? b=some u->h'.get? b=some u)(hp:s.heap.objs.size<=a)(new:cZ X.prog X.w (upd H a o) h' a o) :
  Inv X pins σ (upd H a o) {s with heap:=h',toks:=t'}:=I.un (Un.laid k hp (I.hok.fresh hp)) (I.hok.laid k hp new)
theorem Inv.write(I:Inv X pins σ H s)(mu:Mut (H x))(he:e=x\/H e=some (.own x))(k:∀ b u,b≠e->s.heap.get? b=some u->h'.get? b=some u)(heo:∃ u,h'.get? e=some u)
  (new:cZ X.prog X.w (upd H x o) h' x o):Inv X pins σ (upd H x o) {s with heap:=h',toks:=t'}:=I.un (Un.write mu he k heo) (I.hok.write mu he k heo new)
theorem Inv.lb(I:Inv X pins σ H s)(h:∀ p∈pins',s.heap.get? p.1=some p.2/\H p.1=none/\p.1≠X.env.locals/\p.1 ∉ X.fs/\∀ v,p.2.data ≠ .cell v):Inv X pins' σ H s:=
 ⟨I.ok,I.os,I.bare,I.base,I.loc,I.cell,I.free,I.freeC,λ p hp=>(List.mem_append.mp hp).elim (λ z=>I.pin p (List.mem_append_left _ z)) (h p),I.hok,I.len⟩
theorem yd{N:List Str}(hN:N.Nodup){i j:Nat}(a:N[i]? =some x)(b:N[j]? =some x):i=j:=by obtain⟨h1,e1⟩:=List.getElem?_eq_some_iff.mp a;obtain⟨h2,e2⟩:=List.getElem?_eq_some_iff.mp b;exact(List.getElem_inj hN).mp (e1.trans e2.symm)
theorem aaj(I:Inv X pins σ H s)(hN:X.N.Nodup)(hi:X.N[i]? =some x)(hx:Loc X.env.scope x)(r:RelV v u)
  (h:∀ s',Inv X pins (σ.set i (some v)) H s'->(∃ a,Heap.SameBut a s.heap s'.heap/\(a=X.env.locals\/X.env.cells.lookup x=some a))->Q () s')(hf:X.fn x=true\/X.env.scope.names.lookup x=some .local:=by first | exact .inl rfl | exact .inr rfl | assumption):wpAny M A (storeName X.env x u) Q E s:=by
 obtain⟨m,hn,hl⟩:=id I.loc;have hcls:(X.env.scope.kind==.class || (X.env.scope.kind==.module&&X.env.locals != X.env.globals))=false:=by rw[I.ok.kind];rfl
 have hiσ:i<σ.length:=by rw[I.len];exact(List.getElem?_eq_some_iff.mp hi).1
 have cne:=I.cne;have tracked:∀ {a:Addr} {h':Heap},(∃ o,s.heap.get? a=some o/\H a=none)->Heap.SameBut a s.heap h'->HOk X.prog X.w H h':=λ {a h'} ha hs b ob e=>by
  obtain⟨_,_,hfree⟩:=ha;refine(I.hok b ob e).vB (λ c w' hc q=>(hs.2 c ?_).trans q) (λ _ q=>q) λ _ _ q=>q;rintro rfl;rcases hc with rfl | hc
  ·rw[hfree] at e;cases e
  ·rw[hfree] at hc;cases hc
 rcases hx with hk | hk
 ·refine wpAny_storeName_local hk hn (λ h' hn' hs=>?_) hcls;obtain⟨oL,_,_,hoL,_⟩:=id hn;refine h _ ⟨I.ok,I.os,I.bare,⟨λ b o e n hb hx=>?_,λ b o e n hb hx=>?_,I.base.free,λ b o e hx=>?_,I.base.tups,I.base.frzs,I.base.tbls⟩,⟨_,hn',λ j y v' e1 e2 e3=>?_⟩,λ y c e=>?_,I.free,I.freeC,λ p hp=>?_,tracked ⟨oL,hoL,I.free⟩ hs,by simpa using I.len⟩ ⟨_,hs,.inl rfl⟩
  ·exact(hs.2 b (Nat.ne_of_lt (Nat.lt_of_lt_of_le (Heap.lt_size e) I.ok.above))).trans (I.base.keep b o e n hb hx)
  ·obtain⟨sl,e1⟩:=I.base.slot b o e n hb hx;exact⟨sl,(hs.2 b (Nat.ne_of_lt (Nat.lt_of_lt_of_le (Heap.lt_size e) I.ok.above))).trans e1⟩
  ·obtain⟨o',e1⟩:=I.base.there b o e hx;exact⟨o',(hs.2 b (Nat.ne_of_lt (Nat.lt_of_lt_of_le (Heap.lt_size e) I.ok.above))).trans e1⟩
  ·by_cases hj:j=i
   ·subst hj;rw[hi] at e1;cases e1;rw[List.getElem?_set_self hiσ] at e2;cases e2;exact⟨u,r,.inl ⟨hk,by simp⟩⟩
   ·rw[List.getElem?_set_ne (Ne.symm hj)] at e2;obtain⟨u',r',q⟩:=hl j y v' e1 e2 e3;refine⟨u',r',?_⟩;rcases q with ⟨k,e⟩ | ⟨k,c,e,z⟩
    ·refine .inl ⟨k,?_⟩;have:y≠x:=λ e=>hj (yd hN e1 (e ▸ hi));simp[this,e]
    ·exact .inr ⟨k,c,e,z.sameBut hs (cne y c e)⟩
  ·obtain⟨w',z⟩:=I.cell y c e;exact⟨w',z.sameBut hs (cne y c e)⟩
  ·obtain⟨e,n,ne,nf,d⟩:=I.pin p hp;exact⟨(hs.2 p.1 ne).trans e,n,ne,nf,d⟩
 ·have hfn:X.fn x=true:=by
   rcases hf with z | z
   ·exact z
   ·rw[z] at hk;cases hk
  obtain⟨c,hc⟩:=I.ok.has x (.inl hk);obtain⟨w',z⟩:=I.cell x c hc;refine wpAny_storeName_cell I.ok.kind hk hc z (λ h' hc' hs=>?_);obtain⟨oc,hoc,hocd⟩:=id z;refine h {s with heap:=h'} ⟨I.ok,I.os,I.bare,⟨λ b o e n hb hx=>?_,λ b o e n hb hx=>?_,I.base.free,λ b o e hx=>?_,I.base.tups,I.base.frzs,I.base.tbls⟩,⟨m,hn.sameBut hs (Ne.symm (cne x c hc)),λ j y v' e1 e2 e3=>?_⟩,λ y c' e=>?_,I.free,I.freeC,λ p hp=>?_,tracked ⟨oc,hoc,I.freeC x c hc⟩ hs,by simpa using I.len⟩ ⟨c,hs,.inr hc⟩
  ·exact(hs.2 b (Nat.ne_of_lt (Nat.lt_of_lt_of_le (Heap.lt_size e) (I.ok.cab x c hfn hc)))).trans (I.base.keep b o e n hb hx)
  ·obtain⟨sl,e1⟩:=I.base.slot b o e n hb hx;exact⟨sl,(hs.2 b (Nat.ne_of_lt (Nat.lt_of_lt_of_le (Heap.lt_size e) (I.ok.cab x c hfn hc)))).trans e1⟩
  ·obtain⟨o',e1⟩:=I.base.there b o e hx;exact⟨o',(hs.2 b (Nat.ne_of_lt (Nat.lt_of_lt_of_le (Heap.lt_size e) (I.ok.cab x c hfn hc)))).trans e1⟩
  ·by_cases hj:j=i
   ·subst hj;rw[hi] at e1;cases e1;rw[List.getElem?_set_self hiσ] at e2;cases e2;exact⟨u,r,.inr ⟨.inl hk,c,hc,hc'⟩⟩
   ·rw[List.getElem?_set_ne (Ne.symm hj)] at e2;obtain⟨u',r',q⟩:=hl j y v' e1 e2 e3;refine⟨u',r',?_⟩;rcases q with q | ⟨k,c',e,z'⟩
    ·exact .inl q
    ·refine .inr ⟨k,c',e,z'.sameBut hs ?_⟩;rintro rfl;exact hj (yd hN e1 (I.ok.inj _ _ _ e hc ▸ hi))
  ·by_cases hcc:c'=c
   ·subst hcc;exact⟨_,hc'⟩
   ·obtain⟨w2,z2⟩:=I.cell y c' e;exact⟨w2,z2.sameBut hs hcc⟩
  ·obtain⟨e,n,ne,nf,d⟩:=I.pin p hp;refine⟨(hs.2 p.1 ?_).trans e,n,ne,nf,d⟩;intro q;rw[q,hoc] at e;have q':oc=p.2:=Option.some.inj e;exact d w' (by rw[<- q'];exact hocd)
theorem ky(I:Inv X pins σ H s)(hN:X.N.Nodup)(hi:X.N[i]? =some x)(hx:Loc X.env.scope x)(r:RelV v u)
  (h:∀ s',Inv X pins (σ.set i (some v)) H s'->Q () s')(hf:X.fn x=true\/X.env.scope.names.lookup x=some .local:=by first | exact .inl rfl | exact .inr rfl | assumption):wpAny M A (storeName X.env x u) Q E s:=
 aaj I hN hi hx r (λ s' I' _=>h s' I') hf
theorem Inv.afb(I:Inv X pins σ H s)(ho:s'.os=s.os)(u:Un (frs X.stack) ch H H' s.heap s'.heap)(hok:HOk X.prog X.w H' s'.heap)(hg:AllBare s'.gens)
  (hch:∀ b∈ch,(b∈X.ex\/X.s₀.heap.objs.size<=b)/\b≠X.env.locals/\(∀ x c,X.env.cells.lookup x=some c->c≠b)/\∀ p∈X.pn++pins,p.1≠b):Inv X pins σ H' s':=by
 obtain⟨h',g',d',t',o'⟩:=s';have e:o'=s.os:=ho;subst e;exact I.call (g':=g') (t':=t') (d':=d') u hok hg hch
end
abbrev XK:=Value->Option Addr->Hp->Prop
abbrev St:=List (Option V)
abbrev VK:=V->Hp->Prop
abbrev TE:=St->Hp->VK->Prop
abbrev TT:=St->Hp->(Bool->Hp->Prop)->Prop
abbrev TA:=St->Hp->(List V->Hp->Prop)->Prop
structure Ends where
 nx:St->Hp->Prop
 rt:VK
 bk:St->Hp->Prop:=λ _ _=>False
 ct:St->Hp->Prop:=λ _ _=>False
abbrev TS:=Ends->St->Hp->Prop
def EP(X:Cx)(pins:PN)(σ:St)(Q:VK)(u:Value)(s':Shared):Prop:=∃ v H',Inv X pins σ H' s'/\RelV v u/\Q v H'
def TP(X:Cx)(pins:PN)(σ:St)(Q:Bool->Hp->Prop)(b:Bool)(s':Shared):Prop:=∃ H',Inv X pins σ H' s'/\Q b H'
def AP(X:Cx)(pins:PN)(σ:St)(Q:List V->Hp->Prop)(us:List Value)(s':Shared):Prop:=∃ vs H',Inv X pins σ H' s'/\Vals vs us/\Q vs H'
def SP(X:Cx)(pins:PN)(D:Ends)(f:Flow)(s':Shared):Prop:=
 match f with
 | .next=>∃ σ' H',Inv X pins σ' H' s'/\D.nx σ' H'
 | .brk=>∃ σ' H',Inv X pins σ' H' s'/\D.bk σ' H'
 | .cont=>∃ σ' H',Inv X pins σ' H' s'/\D.ct σ' H'
 | .ret u=>∃ v σ' H',Inv X pins σ' H' s'/\RelV v u/\D.rt v H'
def PE(X:Cx)(e:Expr)(t:TE):Prop:=
 ∀ (pins:PN) (s:Shared) (σ:St) (H:Hp) (Q:VK),Inv X pins σ H s->t σ H Q->wpAny (model X.prog X.w) X.A (eval e X.env) (EP X pins σ Q) X.xe s
def PT(X:Cx)(e:Expr)(t:TT):Prop:=
 ∀ (pins:PN) (s:Shared) (σ:St) (H:Hp) (Q:Bool->Hp->Prop),Inv X pins σ H s->t σ H Q->wpAny (model X.prog X.w) X.A (isTrue e X.env (eval e X.env)) (TP X pins σ Q) X.xe s
def PW(X:Cx)(e:Expr)(t:TT):Prop:=
 ∀ (whole:Sem Value) (pins:PN) (s:Shared) (σ:St) (H:Hp) (Q:Bool->Hp->Prop),Inv X pins σ H s->t σ H Q->wpAny (model X.prog X.w) X.A (isTrue e X.env whole) (TP X pins σ Q) X.xe s
theorem PW.pt(h:PW X e t):PT X e t:=h _
def PA(X:Cx)(es:List Expr)(t:TA):Prop:=
 ∀ (pos:Pos) (pins:PN) (s:Shared) (σ:St) (H:Hp) (Q:List V->Hp->Prop),Inv X pins σ H s->t σ H Q->wpAny (model X.prog X.w) X.A (spliced (backTo pos (starEach es X.env))) (AP X pins σ Q) X.xe s
def PS(X:Cx)(st:Stmt)(t:TS):Prop:=
 ∀ (pins:PN) (s:Shared) (σ:St) (H:Hp) (D:Ends),Inv X pins σ H s->t D σ H->wpAny (model X.prog X.w) X.A (exec st X.env) (SP X pins D) X.xe s
def PSs(X:Cx)(st:List Stmt)(t:TS):Prop:=
 ∀ (pins:PN) (s:Shared) (σ:St) (H:Hp) (D:Ends),Inv X pins σ H s->t D σ H->wpAny (model X.prog X.w) X.A (execs st X.env) (SP X pins D) X.xe s
theorem thn(h:wpAny M A t Q E s)(hQ:∀ a s,Q a s->Q' a s):wpAny M A t Q' E s:=wpAny_mono h hQ λ _ _ x=>x
section
variable {X:Cx}
def amh(i:Nat):TE:=λ σ H Q=>∃ v,σ[i]? =some (some v)/\Q v H
def tC(v:V):TE:=λ _ H Q=>Q v H
theorem ab1(hN:X.N[i]? =some x)(hv:Vis X.env.scope x)(hd:ND x:=by decide)(hcd:(x==("__classdict__" : Str))=false:=by decide):PE X (.Name x pos) (amh i):=by
 intro pins s σ H Q I h;obtain⟨v,e,h⟩:=h;obtain⟨m,hn,hl⟩:=I.loc;obtain⟨u,r,l⟩:=hl i x v hN e hv;have fin:EP X pins σ Q u s:=⟨v,H,I,r,h⟩;rcases l with ⟨hk,hm⟩ | ⟨hk,c,hc,hcell⟩
 ·exact wpAny_Name (wpAny_loadName_local I.ok.kind hk hn hm fin) hd
 ·rcases hk with hk | hk
  ·exact wpAny_Name (wpAny_loadName_cell I.ok.kind hk hc hcell fin) hd
  ·exact wpAny_Name (wpAny_loadName_free I.ok.kind hk hc hcell fin hcd) hd
theorem ajZ{i j pos}:PE X (.Constant (.int i) j pos) (tC (.int i)):=λ _ _ _ H _ I h=>wpAny_Constant_int ⟨.int i,H,I.tok _,⟨_,rfl⟩,h⟩
theorem akC{b j pos}:PE X (.Constant (.bool b) j pos) (tC (.bl b)):=λ _ _ _ H _ I h=>Constant_bool ⟨.bl b,H,I,rfl,h⟩
theorem ajz{j pos}:PE X (.Constant .none j pos) (tC .non):=λ _ _ _ H _ I h=>Constant_none ⟨.non,H,I,rfl,h⟩
theorem aih{x j pos}:PE X (.Constant (.str x) j pos) (tC (.str x)):=λ _ _ _ H _ I h=>Calls.Constant_str ⟨.str x,H,I.tok _,⟨_,rfl⟩,h⟩
def Gl(X:Cx)(x:Str):Prop:=X.env.kindOf x=some .globalImplicit
theorem iL(I:Inv X pins σ H s)(hg:Gl X x)(hm:X.mg x=some u)(h:Q u s)
  (hd:ND x:=by decide):wpAny (model X.prog X.w) X.A (eval (.Name x pos) X.env) Q E s:=
 Calls.Name_function_global I.ok.kind hg (Calls.loadGlobal_global (by rw[I.ok.glob];exact I.mod.glob.keeps I.bk) hm h) hd
theorem vh(I:Inv X pins σ H s)(hg:Gl X x)(hm:X.mg x=none)(hv:bootBuiltins x=some u)(h:Q u s)
  (hn:x ≠ "__name__":= by decide)(hd:ND x:=by decide):wpAny (model X.prog X.w) X.A (eval (.Name x pos) X.env) Q E s:=by
 obtain⟨mb,h1,h2⟩:=I.mod.blt;exact Calls.Name_function_global I.ok.kind hg (Calls.loadGlobal_builtin (by rw[I.ok.glob];exact I.mod.glob.keeps I.bk) hm (by rw[I.ok.blt];exact h1.keeps I.bk) ((h2 x hn).trans hv) h) hd
theorem jw(hg:Gl X x)(hm:X.mg x=some u)(r:RelV v u)(hd:ND x:=by decide):PE X (.Name x pos) (tC v):=
 λ _ _ _ H _ I h=>iL I hg hm ⟨v,H,I,r,h⟩ hd
theorem afO{x:Str}{v:V}{u:Value}{pos:Pos}(hg:Gl X x)(hm:X.mg x=none)(hv:bootBuiltins x=some u)(r:RelV v u)(hn:x ≠ "__name__":= by decide)(hd:ND x:=by decide):PE X (.Name x pos) (tC v):=
 λ _ _ _ H _ I h=>vh I hg hm hv ⟨v,H,I,r,h⟩ hn hd
variable {a b:Expr}{ta tb:TE}{pos:Pos}
def PC(X:Cx)(op:CmpOp)(a b:Expr)(t:TE):Prop:=
 ∀ (pins:PN) (s:Shared) (σ:St) (H:Hp) (Q:VK),Inv X pins σ H s->t σ H Q ->
  wpAny (model X.prog X.w) X.A (eval a X.env) (λ v s₁=>wpAny (model X.prog X.w) X.A (eval b X.env) (λ u s₂=>wpAny (model X.prog X.w) X.A (compareOp op v u) (EP X pins σ Q) X.xe s₂) X.xe s₁) X.xe s
theorem jY(b:Expr)(h:op ≠ .In)(h2:op ≠ .NotIn):behindInMarks op b=false:=by
 have e1:(op==CmpOp.In)=false:=by cases op<;>first | rfl | exact absurd rfl h
 have e2:(op==CmpOp.NotIn)=false:=by cases op<;>first | rfl | exact absurd rfl h2
 cases b<;>simp[behindInMarks,e1,e2]
def tB(t:TE):TT:=λ σ H Q=>t σ H λ x H1=>∃ c,x=.bl c/\Q c H1
theorem aa4(h:PC X op a b t)(h1:behindInMarks op b=false:=by first | exact jY _ (by decide) (by decide) | rfl):PT X (.Compare a [op] [b] pos) (tB t):=by intro pins s σ H Q I hw;refine wpAny_isTrue_Compare1 (thn (h pins s σ H _ I hw) λ v s1 h1=>thn h1 λ u s2 h2=>thn h2 λ c s3 ⟨x,H1,I1,r1,q1⟩=>?_) h1;obtain⟨d,rfl,q⟩:=q1;cases r1;exact wpAny_truthy_bool ⟨H1,I1,q⟩
theorem aif(h:PE X e t)(he:∀ whole,isTrue e X.env whole=(do let v <- whole;standAt e.pos;holding [v] (truthy v)):=by intro _;rfl):PT X e (tB t):=by intro pins s σ H Q I hw;refine isTrue_plain (thn (h pins s σ H _ I hw) λ v s1 ⟨x,H1,I1,r1,q1⟩=>?_) (he _);obtain⟨d,rfl,q⟩:=q1;cases r1;exact wpAny_truthy_bool ⟨H1,I1,q⟩
variable {tA tB':TT}{rest:List Expr}
def amC(t u:TT):TT:=λ σ H Q=>t σ H λ c H1=>if c=true then u σ H1 Q else Q false H1
def tOr(t u:TT):TT:=λ σ H Q=>t σ H λ c H1=>if c=true then Q true H1 else u σ H1 Q
def amQ(t:TT):TT:=λ σ H Q=>t σ H λ c H1=>Q (!c) H1
theorem pw_and1(ha:PT X a tA):PW X (.BoolOp .And [a] pos) tA:=by
 intro wh pins s σ H Q I h;refine isTrue_and (thn (ha pins s σ H Q I h) λ c s1 e=>?_);cases c with
 | true=>exact isTrue_and_nil e
 | false=>exact e
theorem pw_or1(ha:PT X a tA):PW X (.BoolOp .Or [a] pos) tA:=by
 intro wh pins s σ H Q I h;refine isTrue_or (thn (ha pins s σ H Q I h) λ c s1 e=>?_);cases c with
 | false=>exact isTrue_or_nil e
 | true=>exact e
theorem pw_and(ha:PT X a tA)(hb:PW X (.BoolOp .And (b::rest) pos) tB'):PW X (.BoolOp .And (a::b::rest) pos) (amC tA tB'):=by
 intro wh pins s σ H Q I h;refine isTrue_and (thn (ha pins s σ H _ I h) λ c s1 hq1=>?_);obtain⟨H1,I1,q1⟩:=hq1;cases c with
 | true=>exact hb wh pins s1 σ H1 Q I1 q1
 | false=>exact⟨H1,I1,q1⟩
theorem pw_or(ha:PT X a tA)(hb:PW X (.BoolOp .Or (b::rest) pos) tB'):PW X (.BoolOp .Or (a::b::rest) pos) (tOr tA tB'):=by
 intro wh pins s σ H Q I h;refine isTrue_or (thn (ha pins s σ H _ I h) λ c s1 hq2=>?_);obtain⟨H1,I1,q1⟩:=hq2;cases c with
 | true=>exact⟨H1,I1,q1⟩
 | false=>exact hb wh pins s1 σ H1 Q I1 q1
theorem aiF(ha:PT X a tA):PT X (.UnaryOp .Not a pos) (amQ tA):=by intro pins s σ H Q I h;exact isTrue_not (ha pins s σ H (λ c H1=>Q (!c) H1) I h)
def akE(ta tb:TE):TE:=λ σ H Q=>ta σ H λ x H1=>∃ c,x=.bl c/\if c=true then tb σ H1 Q else Q (.bl false) H1
def amL(ta tb:TE):TE:=λ σ H Q=>ta σ H λ x H1=>∃ c,x=.bl c/\if c=true then Q (.bl true) H1 else tb σ H1 Q
def alr(ta:TE):TE:=λ σ H Q=>ta σ H λ x H1=>∃ c,x=.bl c/\Q (.bl (!c)) H1
theorem ajf{op}(h:PE X a t):PE X (.BoolOp op [a] pos) t:=λ pins s σ H Q I hw=>BoolOp_one (h pins s σ H Q I hw)
theorem ajq(ha:PE X a ta)(hb:PE X (.BoolOp .And (b::rest) pos) tb):PE X (.BoolOp .And (a::b::rest) pos) (akE ta tb):=by
 intro pins s σ H Q I h;refine BoolOp_and (thn (ha pins s σ H _ I h) λ v s1 hq3=>?_);obtain⟨x,H1,I1,r1,q1⟩:=hq3;obtain⟨c,rfl,q1⟩:=q1;cases r1;refine wpAny_truthy_bool ?_;cases c with
 | true=>exact hb pins s1 σ H1 Q I1 q1
 | false=>exact⟨.bl false,H1,I1,rfl,q1⟩
theorem akN(ha:PE X a ta)(hb:PE X (.BoolOp .Or (b::rest) pos) tb):PE X (.BoolOp .Or (a::b::rest) pos) (amL ta tb):=by
 intro pins s σ H Q I h;refine BoolOp_or (thn (ha pins s σ H _ I h) λ v s1 hq4=>?_);obtain⟨x,H1,I1,r1,q1⟩:=hq4;obtain⟨c,rfl,q1⟩:=q1;cases r1;refine wpAny_truthy_bool ?_;cases c with
 | false=>exact hb pins s1 σ H1 Q I1 q1
 | true=>exact⟨.bl true,H1,I1,rfl,q1⟩
theorem ai2(ha:PE X a ta):PE X (.UnaryOp .Not a pos) (alr ta):=by intro pins s σ H Q I h;refine UnaryOp_ (thn (ha pins s σ H _ I h) λ v s1 hq5=>?_);obtain⟨x,H1,I1,r1,q1⟩:=hq5;obtain⟨c,rfl,q1⟩:=q1;cases r1;exact not_of (wpAny_truthy_bool ⟨.bl (!c),H1,I1,rfl,q1⟩)
end
def SqL(K:FG)(H:Hp)(a:Addr)(xs:List V):Prop:=
 Rd H a (.lst xs) \/
  ∃ (o:Obj) (its:Array Value) (n:Nat),K.lookup a=some o/\o.cls=.type "list" /\ o.dict=none/\o.data=.seq its n/\its.size<=sizeLine/\Vals xs its.toList
def SqT(K:FG)(H:Hp)(a:Addr)(xs:List V):Prop:=
 Rd H a (.tup xs) \/
  ∃ (o:Obj) (its:Array Value) (n:Nat),K.lookup a=some o/\o.cls=.type "tuple" /\ o.dict=none/\o.data=.seq its n/\its.size<=sizeLine/\Vals xs its.toList
def amm:Value->Option V
 | .none=>some .non
 | .bool b=>some (.bl b)
 | .int i _=>some (.int i)
 | .str x _=>some (.str x)
 | .bytes b _=>some (.byt b)
 | .float b _=>some (.flt b)
 | .ref a=>some (.ref a)
 | .type n=>some (.ty n)
 | _=>none
theorem RelV.abs(r:RelV x u):amm u=some x:=by
 cases x with
 | non=>cases r;rfl
 | bl _=>cases r;rfl
 | int _=>obtain⟨t,rfl⟩:=r;rfl
 | str _=>obtain⟨t,rfl⟩:=r;rfl
 | byt _=>obtain⟨t,rfl⟩:=r;rfl
 | flt _=>obtain⟨t,rfl⟩:=r;rfl
 | ref _=>cases r;rfl
 | ty _=>cases r;rfl
theorem RelV.inj(r:RelV x u)(q:RelV y u):x=y:=Option.some.inj (r.abs.symm.trans q.abs)
theorem Vals.inj:∀ {xs ys:List V} {us:List Value},Vals xs us->Vals ys us->xs=ys
 | _,_,_,.nil,.nil=>rfl
 | _,_,_,.cons r t,.cons r' t'=>by rw[r.inj r',Vals.inj t t']
theorem SqL.of{K:FG}(h:H a=some (.lst xs)):SqL K H a xs:=.inl (.inl h)
theorem Inv.list(I:Inv X pins σ H s)(h:SqL X.K H a xs):∃ its:List Value,Vals xs its/\PlainL s.heap a its.toArray/\xs.length<=sizeLine:=by
 rcases h with h | ⟨o,its,n,hk,hc,hd,hs,hz,r⟩
 ·obtain⟨z,its,n,r,e⟩:=h.ok I.hok;exact⟨its,r,⟨_,n,e,rfl,rfl,rfl⟩,z⟩
 ·refine⟨its.toList,r,⟨o,n,I.kIn a o hk,hc,hd,by simpa using hs⟩,?_⟩;have e:=r.length;simp only[Array.length_toList] at e;omega
theorem Inv.al4(I:Inv X pins σ H s)(h:SqT X.K H a xs):∃ its:List Value,Vals xs its/\aeh s.heap a its.toArray/\xs.length<=sizeLine:=by
 rcases h with h | ⟨o,its,n,hk,hc,hd,hs,hz,r⟩
 ·obtain⟨z,its,r,p⟩:=h.ok I.hok;exact⟨its,r,p,z⟩
 ·refine⟨its.toList,r,⟨o,I.kIn a o hk,hc,hd,n,by simpa using hs⟩,?_⟩;have e:=r.length;simp only[Array.length_toList] at e;omega
theorem Inv.tuple(I:Inv X pins σ H s)(h:SqT X.K H a xs):∃ its:List Value,Vals xs its/\IsTup s.heap a its.toArray/\xs.length<=sizeLine:=by obtain⟨its,r,p,z⟩:=I.al4 h;exact⟨its,r,p.tup,z⟩
theorem Inv.rj(I:Inv X pins σ H s)(h:SqL X.K H a xs)(h':SqL X.K H a ys):xs=ys:=by
 obtain⟨its,r,⟨o,n,e,_,_,d⟩,_⟩:=I.list h;obtain⟨its',r',⟨o',n',e',_,_,d'⟩,_⟩:=I.list h';rw[e] at e';cases e';rw[d] at d'
 injection d' with d1 _
 have:its=its':=by simpa using congrArg Array.toList d1
 subst this;exact r.inj r'
theorem Inv.tI(I:Inv X pins σ H s)(h:SqT X.K H a xs)(h':SqT X.K H a ys):xs=ys:=by
 obtain⟨its,r,⟨o,e,_,n,d⟩,_⟩:=I.tuple h;obtain⟨its',r',⟨o',e',_,n',d'⟩,_⟩:=I.tuple h';rw[e] at e';cases e';rw[d] at d'
 injection d' with d1 _
 have:its=its':=by simpa using congrArg Array.toList d1
 subst this;exact r.inj r'
abbrev Cx.fq(X:Cx)(E:VP):Cx:={X with xe:=E}
abbrev Cx.nox(X:Cx):Cx:=X.fq λ _ _=>False
theorem Cx.Ok.fq{X:Cx}(ok:X.Ok)(E:VP):(X.fq E).Ok:=
 ⟨ok.mod,ok.kind,ok.glob,ok.blt,ok.above,ok.inj,ok.has,ok.cab,ok.hd,ok.frames,ok.stk,ok.exf,ok.bs,ok.bsz,ok.noex,ok.exfs,ok.sI,ok.frf⟩
theorem Cx.Ok.lU{X:Cx}{E:VP}(ok:(X.fq E).Ok):X.Ok:=
 ⟨ok.mod,ok.kind,ok.glob,ok.blt,ok.above,ok.inj,ok.has,ok.cab,ok.hd,ok.frames,ok.stk,ok.exf,ok.bs,ok.bsz,ok.noex,ok.exfs,ok.sI,ok.frf⟩
theorem Inv.fq(I:Inv X pins σ H s)(E:VP):Inv (X.fq E) pins σ H s:=⟨I.ok.fq E,I.os,I.bare,I.base,I.loc,I.cell,I.free,I.freeC,I.pin,I.hok,I.len⟩
theorem Inv.lU(I:Inv (X.fq E) pins σ H s):Inv X pins σ H s:=⟨I.ok.lU,I.os,I.bare,I.base,I.loc,I.cell,I.free,I.freeC,I.pin,I.hok,I.len⟩
theorem SP.lU(h:SP (X.fq E) pins D f s'):SP X pins D f s':=by
 cases f with
 | next=>obtain⟨σ',H',I,q⟩:=h;exact⟨σ',H',I.lU,q⟩
 | brk=>obtain⟨σ',H',I,q⟩:=h;exact⟨σ',H',I.lU,q⟩
 | cont=>obtain⟨σ',H',I,q⟩:=h;exact⟨σ',H',I.lU,q⟩
 | ret u=>obtain⟨v,σ',H',I,r,q⟩:=h;exact⟨v,σ',H',I.lU,r,q⟩
theorem PSs.nox{st:List Stmt}{t:TS}(h:PSs X.nox st t):PSs X st t:=λ pins s σ H D I hw =>
 wpAny_mono (h pins s σ H D (I.fq _) hw) (λ _ _ q=>q.lU) λ _ _ z=>False.elim z
section
variable {X:Cx}{st:Stmt}{rest:List Stmt}{t u:TS}{e:Expr}{te:TE}{pos:Pos}
def aky:TS:=λ D σ H=>D.nx σ H
def amn(t u:TS):TS:=λ D σ H=>t {D with nx:=u D} σ H
theorem afa:PSs X [] aky:=λ _ _ σ H _ I h=>wpAny_execs_nil ⟨σ,H,I,h⟩
theorem aea(h1:PS X st t)(h2:PSs X rest u):PSs X (st::rest) (amn t u):=by
 intro pins s σ H D I h;refine wpAny_execs_cons (thn (h1 pins s σ H {D with nx:=u D} I h) λ f s1 q=>?_);cases f with
 | next =>
  obtain⟨σ',H',I',q⟩:=q;exact h2 pins s1 σ' H' D I' q
 | ret v=>exact q
 | brk=>exact q
 | cont=>exact q
theorem zN(h1:PS X st t):PSs X [st] t:=by
 intro pins s σ H D I h;refine wpAny_execs_cons (thn (h1 pins s σ H D I h) λ f s1 q=>?_);cases f with
 | next=>exact wpAny_execs_nil q
 | ret v=>exact q
 | brk=>exact q
 | cont=>exact q
theorem Inv.quiet(I:Inv X pins σ H s):interactive X.env=false:=by simp[interactive,I.ok.kind]
def ak1(te:TE):TS:=λ D σ H=>te σ H λ _ H1=>D.nx σ H1
theorem af3(he:PE X e te)(hs:swapsWith e none pos.line X.env=pure false:=by rfl):PS X (.Expr e pos) (ak1 te):=by intro pins s σ H D I h;exact wpAny_Expr_any (thn (he pins s σ H _ I h) λ v s1 ⟨x,H1,I1,r1,q1⟩=>⟨σ,H1,I1,q1⟩) I.quiet hs
def amo(te:TE):TS:=λ D σ H=>te σ H D.rt
theorem ai7(he:PE X e te):PS X (.Return (some e) pos) (amo te):=by intro pins s σ H D I h;exact wpAny_Return_some (thn (he pins s σ H _ I h) λ v s1 ⟨x,H1,I1,r1,q1⟩=>⟨x,σ,H1,I1,r1,q1⟩)
def alF:TS:=λ D _ H=>D.rt .non H
theorem agP:PS X (.Return none pos) alF:=λ _ _ σ H _ I h=>wpAny_Return_none ⟨.non,σ,H,I,rfl,h⟩
def amM(c:TT)(t u:TS):TS:=λ D σ H=>c σ H λ b H1=>if b=true then t D σ H1 else u D σ H1
theorem ak5(hc:PT X c tc)(ha:PSs X a t)(hb:PSs X b u):PS X (.If c a b pos) (amM tc t u):=by
 intro pins s σ H D I h;refine wpAny_If (thn (hc pins s σ H _ I h) λ d s1 hq6=>?_);obtain⟨H1,I1,q1⟩:=hq6;cases d with
 | true=>exact ha pins s1 σ H1 D I1 q1
 | false=>exact hb pins s1 σ H1 D I1 q1
end
abbrev TG:=V->St->Hp->(St->Hp->Prop)->Prop
abbrev TGs:=List V->St->Hp->(St->Hp->Prop)->Prop
def PG(X:Cx)(target:Expr)(t:TG):Prop:=
 ∀ (pins:PN) (s:Shared) (σ:St) (H:Hp) (v:V) (u:Value) (Q:St->Hp->Prop),Inv X pins σ H s->RelV v u->t v σ H Q ->
  wpAny (model X.prog X.w) X.A (assign target X.env u) (λ _ s'=>∃ σ' H',Inv X pins σ' H' s'/\Q σ' H') X.xe s
def PGs(X:Cx)(ts:List Expr)(t:TGs):Prop:=
 ∀ (pins:PN) (s:Shared) (σ:St) (H:Hp) (vs:List V) (us:List Value) (Q:St->Hp->Prop),Inv X pins σ H s->Vals vs us->t vs σ H Q ->
  wpAny (model X.prog X.w) X.A (assignInOrder ((assignEach ts X.env).map (·.2)) us) (λ _ s'=>∃ σ' H',Inv X pins σ' H' s'/\Q σ' H') X.xe s
abbrev ak3:=V->V->V->Hp->(Hp->Prop)->Prop
def akL(X:Cx)(t:ak3):Prop:=
 ∀ (pins:PN) (s:Shared) (σ:St) (H:Hp) (o i v:V) (ov iv u:Value) (Q:Hp->Prop),Inv X pins σ H s->RelV o ov->RelV i iv->RelV v u->t o i v H Q ->
  wpAny (model X.prog X.w) X.A (setItem ov iv u) (λ _ s'=>∃ H',Inv X pins σ H' s'/\Q H') X.xe s
abbrev TIp:=V->V->Hp->VK->Prop
def PIp(X:Cx)(op:Operator)(t:TIp):Prop:=
 ∀ (pins:PN) (s:Shared) (σ:St) (H:Hp) (x y:V) (v u:Value) (Q:VK),Inv X pins σ H s->RelV x v->RelV y u->t x y H Q ->
  wpAny (model X.prog X.w) X.A (inplaceOp op v u) (EP X pins σ Q) X.xe s
def afl(i:Nat):TG:=λ v σ H Q=>Q (σ.set i (some v)) H
theorem aaM(hN:X.N.Nodup)(hi:X.N[i]? =some x)(hx:Loc X.env.scope x)(hf:X.fn x=true\/X.env.scope.names.lookup x=some .local:=by first | exact .inl rfl | exact .inr rfl | assumption):PG X (.Name x pos) (afl i):=by intro pins s σ H v u Q I r h;exact wpAny_assign_Name (ky I hN hi hx r (λ s' I'=>⟨_,H,I',h⟩) hf)
def amG:TGs:=λ vs σ H Q=>vs=[]/\Q σ H
def ale(t:TG)(u:TGs):TGs:=λ vs σ H Q=>∃ v r,vs=v::r/\t v σ H λ σ' H'=>u r σ' H' Q
theorem agL:PGs X [] amG:=by intro pins s σ H vs us Q I r h;obtain⟨e,h⟩:=h;subst e;cases r;exact assignInOrder_nil ⟨σ,H,I,h⟩
theorem ad2(h1:PG X e t)(h2:PGs X es u)
  (hs:(assignEach (e::es) X.env).map (·.2)=assign e X.env::(assignEach es X.env).map (·.2):=by rfl):PGs X (e::es) (ale t u):=by
 intro pins s σ H vs us Q I r h;obtain⟨v,vr,e1,h⟩:=h;subst e1;cases r with
 | cons r rr =>
  rw[hs];refine assignInOrder_cons (thn (h1 pins s σ H _ _ _ I r h) λ _ s1 hq7=>?_);obtain⟨σ1,H1,I1,q1⟩:=hq7;exact h2 pins s1 σ1 H1 _ _ Q I1 rr q1
def amr(K:FG)(n:Nat)(t:TGs):TG:=λ v σ H Q=>∃ a xs,v=.ref a/\SqT K H a xs/\xs.length=n/\t xs σ H Q
theorem aeI(hc:X.calm=true)(h:PGs X es t)
  (hn:(assignEach es X.env).length=n:=by rfl)(hst:(assignEach es X.env).findIdx? (·.1)=none:=by rfl):PG X (.Tuple es k pos) (amr X.K n t):=by
 intro pins s σ H v u Q I r hw;obtain⟨a,xs,e1,hq,hl,hw⟩:=hw;subst e1;cases r;obtain⟨its,rv,ht,hz⟩:=I.tuple hq;refine assign_Tuple_tuple (I.ok.hd hc) ht (by simp[hn,<- hl,rv.length]) hst λ h' hx=>?_;have I1:Inv X pins σ H {s with heap:=h'}:=I.kept (t':=s.toks) λ b o e=>hx b o (Nat.ne_of_lt (Heap.lt_size e)) e;exact h pins _ σ H xs _ Q I1 (by simpa using rv) hw
def amK(to ti:TE)(t:ak3):TG:=λ v σ H Q=>to σ H λ o H1=>ti σ H1 λ i H2=>t o i v H2 λ H3=>Q σ H3
theorem ajo(ho:PE X o to)(hi:PE X i ti)(hs:akL X t)
  (ha:∀ v,assign (.Subscript o i pos) X.env v=(do
   let ov <- holding [v] (eval o X.env)
   let iv <- holding [v,ov] (eval i X.env)
   standAt pos
   holding [v,ov,iv] (setItem ov iv v)
   release [v,ov,iv] []):=by intro _;rfl):PG X (.Subscript o i pos) (amK to ti t):=by
 intro pins s σ H v u Q I r h;rw[ha];refine wb0 (wpAny_holding (thn (ho pins s σ H _ I h) λ ov s1 hq8=>?_));obtain⟨x,H1,I1,r1,q1⟩:=hq8;refine wb0 (wpAny_holding (thn (hi pins s1 σ H1 _ I1 q1) λ iv s2 hq9=>?_));obtain⟨y,H2,I2,r2,q2⟩:=hq9;refine wb0 (wpAny_standAt (wb0 (wpAny_holding (thn (hs pins s2 σ H2 x y v ov iv u _ I2 r1 r2 r q2) λ _ s3 hq10=>?_))));obtain⟨H3,I3,q3⟩:=hq10;exact wpAny_release ⟨σ,H3,I3,q3⟩
def akd(te:TE)(g:TG):TS:=λ D σ H=>te σ H λ x H1=>g x σ H1 D.nx
theorem ae1(he:PE X e te)(hg:PG X tg g)(hs:swapsWithSole [tg] e pos.line X.env=pure false:=by rfl)(hw:swappedStores [tg] e X.env=pure none:=by rfl)
  (h1:(assignEach [tg] X.env).map (·.2)=[assign tg X.env]:=by rfl):PS X (.Assign [tg] e pos) (akd te g):=by
 intro pins s σ H D I h;refine wpAny_Assign_stores (thn (he pins s σ H _ I h) λ v s1 ⟨x,H1,I1,r1,q1⟩=>?_) hs hw;rw[h1];exact thn (hg pins s1 σ H1 x v _ I1 r1 q1) λ _ s2 q=>q
theorem ah1(hN:X.N.Nodup)(hi:X.N[i]? =some x)(hx:Loc X.env.scope x)(he:PE X e te)(hs:swapsWith e (some (.Name x pos')) pos.line X.env=pure false:=by rfl)(hf:X.fn x=true\/X.env.scope.names.lookup x=some .local:=by first | exact .inl rfl | exact .inr rfl | assumption) :
  PS X (.Assign [.Name x pos'] e pos) (akd te (afl i)):=by
 intro pins s σ H D I h;refine wpAny_Assign_Name (thn (he pins s σ H _ I h) λ v s1 ⟨y,H1,I1,r1,q1⟩=>?_) hs;exact ky I1 hN hi hx r1 (λ s2 I2=>⟨_,H1,I2,q1⟩) hf
def amt(i j:Nat)(ta:TA):TS:=λ D σ H=>ta σ H λ vs H1=>∃ v w,vs=[v,w]/\D.nx ((σ.set i (some v)).set j (some w)) H1
theorem ajG{kt k2 pt2}(hc:X.calm=true)(hN:X.N.Nodup)(hi:X.N[i]? =some x)(hj:X.N[j]? =some y)(hij:i≠j)
  (hx:X.env.scope.names.lookup x=some .local)(hy:X.env.scope.names.lookup y=some .local)(ha:PA X [a,b] ta)
  (hw:swappedStores [.Tuple [.Name x px,.Name y py] kt pt] (.Tuple [a,b] k2 pt2) X.env=pure (some [x,y]))
  (hs:swapsWithSole [.Tuple [.Name x px,.Name y py] kt pt] (.Tuple [a,b] k2 pt2) pos.line X.env=pure false:=by rfl) :
  PS X (.Assign [.Tuple [.Name x px,.Name y py] kt pt] (.Tuple [a,b] k2 pt2) pos) (amt i j ta):=by
 intro pins s σ H D I h;rw[exec_Assign_arm];refine wb0 (wpAny_standAt ?_);rw[hs];refine wb0 (wp0 ?_);rw[if_neg (by decide)];refine wb0 (Tuple_ (thn (ha _ pins s σ H _ I h) λ us s1 hq11=>?_));obtain⟨vs,H1,I1,r1,q1⟩:=hq11;obtain⟨v,w,e1,q1⟩:=q1;subst e1;obtain⟨u1,u2,rfl,rv,rw'⟩:∃ u1 u2,us=[u1,u2]/\RelV v u1/\RelV w u2:=by
  cases r1 with
  | cons p q =>
   cases q with
   | cons p' q' =>
    cases q';exact⟨_,_,rfl,p,p'⟩
 refine wpAny_newObj_type ?_ (by show 2<=sizeLine;decide);have I2:Inv X pins σ H1 {s1 with heap:=s1.heap.push {cls:=.type "tuple",data:=.seq [u1,u2].toArray}}:=I1.kept (t':=s1.toks) λ b o e=>Heap.get?_push_of_some _ e;rw[hw];refine wb0 (wp0 ?_);show wpAny (model X.prog X.w) X.A (do rule "assign.swapped-stores";let items <- unpackItems (.ref s1.heap.objs.size) 2 none;assignInOrder [λ v=>bindName X.env y v,λ v=>bindName X.env x v] items.reverse;pure Flow.next) _ _ _;refine wb0 (wpAny_rule (wb0 (unpackItems_tuple (items:=#[u1,u2]) (I.ok.hd hc) (IsTup.new s1.heap _) λ h' hx'=>?_)));have I3:=I2.kept (h':=h') (t':=s1.toks) λ b o e=>hx' b o (Nat.ne_of_lt (Heap.lt_size e)) e;show wpAny _ _ (assignInOrder [λ v=>bindName X.env y v,λ v=>bindName X.env x v] [u2,u1] >>= λ _=>pure Flow.next) _ _ _;refine wb0 (assignInOrder_cons (wpAny_bindName (ky I3 hN hj (.inl hy) rw' (λ s2 I4=>?_) (.inr hy))));refine assignInOrder_cons (wpAny_bindName (ky I4 hN hi (.inl hx) rv (λ s3 I5=>assignInOrder_nil (wp0 ?_)) (.inr hx)));rw[List.set_comm _ _ (Ne.symm hij)] at I5;exact⟨_,H1,I5,q1⟩
def akV(to ti te:TE)(lA:V->V->Hp->VK->Prop)(tip:TIp)(tset:ak3):TS:=λ D σ H=>to σ H λ o H1=>ti σ H1 λ i H2=>lA o i H2 λ x H3=>te σ H3 λ y H4=>tip x y H4 λ z H5=>tset o i z H5 λ H6=>D.nx σ H6
def al2(X:Cx)(t:V->V->Hp->VK->Prop):Prop:=
 ∀ (pins:PN) (s:Shared) (σ:St) (H:Hp) (o i:V) (ov iv:Value) (Q:VK),Inv X pins σ H s->RelV o ov->RelV i iv->t o i H Q ->
  wpAny (model X.prog X.w) X.A (getItem ov iv) (EP X pins σ Q) X.xe s
theorem af9(ho:PE X o to)(hi:PE X i ti)(hg:al2 X lA)(he:PE X e te)(hp:PIp X op tip)(hs:akL X tset)
  (ha:∀ ov iv new,augStore i ov iv new=(do holding [new,ov,iv] (setItem ov iv new);release [new,ov,iv] [];pure .next):=by intros;rfl):PS X (.AugAssign (.Subscript o i tpos) op e pos) (akV to ti te lA tip tset):=by
 intro pins s σ H D I h;refine wpAny_AugAssign_SubscriptAny (thn (ho pins s σ H _ I h) λ ov s1 ⟨x1,H1,I1,r1,q1⟩=>?_) ha;refine thn (hi pins s1 σ H1 _ I1 q1) λ iv s2 hq12=>?_;obtain⟨x2,H2,I2,r2,q2⟩:=hq12;refine thn (hg pins s2 σ H2 x1 x2 ov iv _ I2 r1 r2 q2) λ old s3 hq13=>?_;obtain⟨x3,H3,I3,r3,q3⟩:=hq13;refine thn (he pins s3 σ H3 _ I3 q3) λ v s4 hq14=>?_;obtain⟨x4,H4,I4,r4,q4⟩:=hq14;refine thn (hp pins s4 σ H4 x3 x4 old v _ I4 r3 r4 q4) λ new s5 hq15=>?_;obtain⟨x5,H5,I5,r5,q5⟩:=hq15;exact thn (hs pins s5 σ H5 x1 x2 x5 ov iv new _ I5 r1 r2 r5 q5) λ _ s6 ⟨H6,I6,q6⟩=>⟨σ,H6,I6,q6⟩
def ipI(f:Int->Int->Int):TIp:=λ x y H Q=>∃ i j,x=.int i/\y=.int j/\Q (.int (f i j)) H
theorem ajn:PIp X .Add (ipI λ i j=>i+j):=by intro pins s σ H x y v u Q I r1 r2 h;obtain⟨i,j,e1,e2,q⟩:=h;subst e1;subst e2;obtain⟨t,rfl⟩:=r1;obtain⟨t',rfl⟩:=r2;exact iadd_int ⟨.int _,H,I.tok _,⟨_,rfl⟩,q⟩
structure It where
 go:Nat->Hp->Prop
 yld:Nat->Hp->V->Hp->Prop
 stop:Nat->Hp->Prop
def yO(X:Cx)(pins:PN)(H:Hp)(b:Addr):Prop:=
 H b=none/\b≠X.env.locals/\b ∉ X.fs/\(b∈X.ex\/X.s₀.heap.objs.size<=b)/\(∀ x c,X.env.cells.lookup x=some c->c≠b)/\∀ p∈X.pn++pins,p.1≠b
theorem Inv.zJ(I:Inv X pins σ H s)(hb:s.heap.objs.size<=b)(hn:H' b=none):yO X pins H' b:=by
 refine⟨hn,Nat.ne_of_gt (Nat.lt_of_lt_of_le I.lt hb),I.alK hb,.inr (Nat.le_trans I.sz hb),λ x c e z=>?_,λ p hp z=>?_⟩
 ·obtain⟨v,q⟩:=I.cell x c e;exact absurd (Nat.lt_of_lt_of_le q.lt (by rw[z];exact hb)) (Nat.lt_irrefl _)
 ·exact absurd (Nat.lt_of_lt_of_le (Heap.lt_size (I.pin p hp).1) (by rw[z];exact hb)) (Nat.lt_irrefl _)
structure Turn(P:Program)(w:World)(K:FG)(tg:Expr)(J:It)(fp:List Addr)(it:Addr)(tn:Nat->Heap->Prop):Prop where
 mem:it∈fp
 obj:∀ i h,tn i h->∀ b∈fp,∃ o,h.get? b=some o/\∀ v,o.data ≠ .cell v
 keep:∀ i h h',tn i h->(∀ b∈fp,∀ o,h.get? b=some o->h'.get? b=some o)->tn i h'
 item:∀ (X:Cx),X.prog=P->X.w=w->X.K=K->X.calm=true->∀ (i:Nat) (pins:PN) (s:Shared) (σ:St) (H:Hp) (E:VP),Inv X pins σ H s->(∀ b∈fp,yO X pins H b)->tn i s.heap->J.go i H ->
  wpAny (model P w) X.A (pyNext (.ref it)) (λ r s1=>∃ u,r=some u /\
   wpAny (model P w) X.A (letOwnedTupleGo tg (.ref it) u) (λ _ s2=>∃ x H',Inv X pins σ H' s2/\RelV x u/\J.yld i H x H'/\tn (i+1) s2.heap/\∀ b∈fp,H' b=none) E s1) E s
 done:∀ (X:Cx),X.prog=P->X.w=w->X.K=K->X.calm=true->∀ (i:Nat) (pins:PN) (s:Shared) (σ:St) (H:Hp) (E:VP),Inv X pins σ H s->(∀ b∈fp,yO X pins H b)->tn i s.heap->J.stop i H ->
  wpAny (model P w) X.A (pyNext (.ref it)) (λ r s1=>r=none/\Inv X pins σ H s1) E s
 self:∀ (A:Around) (i:Nat) (s:Shared) (Q:VP) (E:VP),tn i s.heap->Q (.ref it) s->wpAny (model P w) A (pyIter (.ref it)) Q E s
abbrev TI:=St->Hp->(It->Hp->Prop)->Prop
def PIE(X:Cx)(pins:PN)(σ:St)(tg:Expr)(R:It->Hp->Prop)(itv:Value)(s2:Shared):Prop:=
 ∃ (it:Addr) (fp:List Addr) (tn:Nat->Heap->Prop) (J:It) (H':Hp),itv=.ref it/\Inv X pins σ H' s2/\Turn X.prog X.w X.K tg J fp it tn/\tn 0 s2.heap/\(∀ b∈fp,yO X pins H' b)/\R J H'
def PI(X:Cx)(tg iter:Expr)(wi:TI):Prop:=
 ∀ (pins:PN) (s:Shared) (σ:St) (H:Hp) (R:It->Hp->Prop),Inv X pins σ H s->wi σ H R ->
  wpAny (model X.prog X.w) X.A (eval iter X.env) (λ v s1=>wpAny (model X.prog X.w) X.A (pyIter v) (PIE X pins σ tg R) X.xe s1) X.xe s
theorem acK(ho:s.heap.get? it=some o)(hc:o.cls=.type n)(hd:o.data=.fields vs)
  (hn:["enumerate", "zip", "dict_itemiterator", "dict_reverseitemiterator", "odict_iterator", "itertools.zip_longest", "itertools.pairwise"].contains n=false)(hQ:Q () s):wpAny M A (letOwnedTupleGo tg (.ref it) u) Q E s:=by
 unfold letOwnedTupleGo;cases tg<;>first
  | exact wp0 hQ
  | (cases u<;>first
    | exact wp0 hQ
    | (refine wb0 (wpAny_load ho ?_)
       rw[hc,hd];show wpAny M A (if (["enumerate", "zip", "dict_itemiterator", "dict_reverseitemiterator", "odict_iterator", "itertools.zip_longest", "itertools.pairwise"].contains n&&vs[0]? == some (rawInt _))=true then _ else _) Q E s;rw[if_neg (by intro h;rw[hn,Bool.false_and] at h;cases h)];exact wp0 hQ))
def Itl(K:FG)(a:Addr):It:=
 ⟨λ i H=>∃ xs x,SqL K H a xs/\xs[i]? =some x,λ i H x H'=>H'=H/\∀ xs,SqL K H a xs->xs[i]? =some x,λ i H=>∃ xs,SqL K H a xs/\xs.length<=i⟩
def Itt(K:FG)(a:Addr):It:=
 ⟨λ i H=>∃ xs x,SqT K H a xs/\xs[i]? =some x,λ i H x H'=>H'=H/\∀ xs,SqT K H a xs->xs[i]? =some x,λ i H=>∃ xs,SqT K H a xs/\xs.length<=i⟩
theorem aaJ{P:Program}{w:World}{K:FG}{tg:Expr}(a it:Addr):Turn P w K tg (Itl K a) [it] it (λ i h=>h.IsListIter it a i) where
 mem:=by simp
 obj:=λ i h st b hb=>by
  have e:b=it:=by simpa using hb
  subst e;obtain⟨o,e,c,d⟩:=st;exact⟨o,e,λ v z=>by rw[d] at z;cases z⟩
 keep:=λ i h h' st k=>st.at λ o e=>k it (by simp) o e
 item:=by intro X hP hw hK hc i pins s σ H E I hf st hg;subst hP hw hK;obtain⟨xs,x,hq,hx⟩:=hg;obtain⟨its,rv,p,hz⟩:=I.list hq;obtain⟨u,hu,ru⟩:=rv.get hx;obtain⟨f0,f1,f2,f3,f4,f5⟩:=hf it (by simp);refine wpAny_pyNext_list_item st p.isList (x:=u) (by simpa using hu) λ h' st' sb=>?_;have I1:Inv X pins σ H {s with heap:=h'}:=I.turned (t':=s.toks) (λ b o hb e=>(sb.2 b hb).trans e) f0 f1 f3 f4 f5;obtain⟨o,e,c,d⟩:=id st';exact⟨u,rfl,acK (s:={s with heap:=h'}) e c d (by decide) ⟨x,H,I1,ru,⟨rfl,λ ys hy=>by rw[I.rj hy hq];exact hx⟩,st',λ b hb=>(hf b hb).1⟩⟩
 done:=by intro X hP hw hK hc i pins s σ H E I hf st hg;subst hP hw hK;obtain⟨xs,hq,hx⟩:=hg;obtain⟨its,rv,p,hz⟩:=I.list hq;obtain⟨f0,f1,f2,f3,f4,f5⟩:=hf it (by simp);have hl:=rv.length;exact wpAny_pyNext_list_end (I.ok.hd hc) st p.isList (by simp;omega) λ h' eb=>⟨rfl,I.turned (t':=s.toks) (λ b o hb e=>eb b o hb e) f0 f1 f3 f4 f5⟩
 self:=λ _ _ _ _ _ st h=>wpAny_pyIter_listiter st h
theorem zi{P:Program}{w:World}{K:FG}{tg:Expr}(a it:Addr):Turn P w K tg (Itt K a) [it] it (λ i h=>h.IsTupleIter it a i) where
 mem:=by simp
 obj:=λ i h st b hb=>by
  have e:b=it:=by simpa using hb
  subst e;obtain⟨o,e,c,d⟩:=st;exact⟨o,e,λ v z=>by rw[d] at z;cases z⟩
 keep:=λ i h h' st k=>st.at λ o e=>k it (by simp) o e
 item:=by intro X hP hw hK hc i pins s σ H E I hf st hg;subst hP hw hK;obtain⟨xs,x,hq,hx⟩:=hg;obtain⟨its,rv,p,hz⟩:=I.tuple hq;obtain⟨u,hu,ru⟩:=rv.get hx;obtain⟨f0,f1,f2,f3,f4,f5⟩:=hf it (by simp);refine wpAny_pyNext_tuple_item st (show s.heap.IsTuple a its.toArray from p) (x:=u) (by simpa using hu) λ h' st' sb=>?_;have I1:Inv X pins σ H {s with heap:=h'}:=I.turned (t':=s.toks) (λ b o hb e=>(sb.2 b hb).trans e) f0 f1 f3 f4 f5;obtain⟨o,e,c,d⟩:=id st';exact⟨u,rfl,acK (s:={s with heap:=h'}) e c d (by decide) ⟨x,H,I1,ru,⟨rfl,λ ys hy=>by rw[I.tI hy hq];exact hx⟩,st',λ b hb=>(hf b hb).1⟩⟩
 done:=by intro X hP hw hK hc i pins s σ H E I hf st hg;subst hP hw hK;obtain⟨xs,hq,hx⟩:=hg;obtain⟨its,rv,p,hz⟩:=I.tuple hq;obtain⟨f0,f1,f2,f3,f4,f5⟩:=hf it (by simp);have hl:=rv.length;exact wpAny_pyNext_tuple_end (I.ok.hd hc) st (show s.heap.IsTuple a its.toArray from p) (by simp;omega) λ h' eb=>⟨rfl,I.turned (t':=s.toks) (λ b o hb e=>eb b o hb e) f0 f1 f3 f4 f5⟩
 self:=λ _ _ _ _ _ st h=>wpAny_pyIter_tupleiter st h
def amE(wi:TI)(g:TG)(tb:TS):TS:=λ D σ H=>wi σ H λ J H1=>∃ W:Nat->Nat->St->Hp->Prop,(∃ m,W 0 m σ H1)/\∀ i m σ H,W i m σ H ->
 (J.stop i H/\D.nx σ H)\/(J.go i H/\∃ N:St->Hp->Prop,(∀ σ' H',N σ' H'->∃ m',m'<m/\W (i+1) m' σ' H')/\∀ x H',J.yld i H x H'->g x σ H' λ σ2 H2=>tb {D with nx:=N,ct:=N,bk:=D.nx} σ2 H2)
def qI(fp:List Addr)(h:Heap):PN:=fp.filterMap λ b=>(h.get? b).map λ o=>(b,o)
theorem iX(hb:b∈fp)(e:h.get? b=some o):(b,o)∈qI fp h:=List.mem_filterMap.mpr ⟨b,hb,by rw[e];rfl⟩
theorem abX(hp:p∈qI fp h):p.1∈fp/\h.get? p.1=some p.2:=by
 obtain⟨b,hb,e⟩:=List.mem_filterMap.mp hp;cases q:h.get? b with
 | none=>rw[q] at e;cases e
 | some o =>
  rw[q] at e;have e':(b,o)=p:=Option.some.inj e;subst e';exact⟨hb,q⟩
theorem Inv.pinned(I:Inv X pins σ H s)(hf:∀ b∈fp,yO X pins H b)(ho:∀ b∈fp,∃ o,s.heap.get? b=some o/\∀ v,o.data ≠ .cell v):Inv X (pins++qI fp s.heap) σ H s:=
 I.lb λ p hp=>(List.mem_append.mp hp).elim (λ z=>I.pin p (List.mem_append_right _ z)) λ z=>by obtain⟨hb,e⟩:=abX z;obtain⟨f0,f1,f2,_⟩:=hf p.1 hb;obtain⟨o,e',d⟩:=ho p.1 hb;rw[e] at e';cases e';exact⟨e,f0,f1,f2,d⟩
theorem Inv.mK(I:Inv X (pins++pl) σ H s):Inv X pins σ H s:=I.lb λ p hp=>I.pin p (List.mem_append_right _ (List.mem_append_left _ hp))
theorem ai9(hp:PassesOwn (model X.prog X.w) X.A X.env X.xe)(hc:X.calm=true)(hi:PI X tg iter wi)(hg:PG X tg g)(hb:PSs X body tb)
  (hs:∀ x,foldedSetIterable iter X.env x=pure x:=by intro _;rfl):PS X (.For tg iter body [] pos) (amE wi g tb):=by
 intro pins s σ H D I h;refine wpAny_For (thn (hi pins s σ H _ I h) λ v s1 h1=>thn h1 λ itv s2 h2=>?_) hs;obtain⟨it,fp,tn,J,H2,e,I2,T,st2,f2,W,⟨m0,w0⟩,turn⟩:=h2;subst e;have stat:∀ {H':Hp},(∀ b∈fp,H' b=none)->∀ b∈fp,yO X pins H' b:=λ hn b hb=>⟨hn b hb,(f2 b hb).2⟩;refine codeAny_forLoop_any (λ n s'=>∃ i σ' H',Inv X pins σ' H' s'/\tn i s'.heap/\(∀ b∈fp,H' b=none)/\W i n σ' H') ?_ m0 ⟨0,σ,H2,I2,st2,λ b hb=>(f2 b hb).1,w0⟩;rintro n s3 ⟨i,σ3,H3,I3,st3,fr3,w3⟩;rcases turn i n σ3 H3 w3 with ⟨stop,qn⟩ | ⟨go,N,hN,step⟩
 ·refine wpAny_passesOwn hp (thn (T.done X rfl rfl rfl hc i pins s3 σ3 H3 X.xe I3 (stat fr3) st3 stop) λ r s4 ⟨hr,I4⟩=>?_);subst hr;exact wpAny_execs_nil ⟨σ3,H3,I4,qn⟩
 ·refine wpAny_passesOwn hp (thn (T.item X rfl rfl rfl hc i pins s3 σ3 H3 X.xe I3 (stat fr3) st3 go) λ r s4 ⟨u,hr,h4⟩=>?_);subst hr;refine wpAny_passesOwn hp (thn h4 λ _ s5 hq16=>?_);obtain⟨x,H5,I5,r5,y5,st5,fr5⟩:=hq16;have I5':=I5.pinned (stat fr5) (T.obj _ _ st5);refine wpAny_passesOwn hp (thn (hg _ s5 σ3 H5 x u _ I5' r5 (step x H5 y5)) λ _ s6 hq17=>?_);obtain⟨σ6,H6,I6,q6⟩:=hq17;refine wpAny_passesOwn hp (thn (hb _ s6 σ6 H6 _ I6 q6) λ f s7 q7=>?_);have again:∀ {σ7:St} {H7:Hp},Inv X (pins++qI fp s5.heap) σ7 H7 s7->N σ7 H7->∃ m,m<n/\∃ i σ' H',Inv X pins σ' H' s7/\tn i s7.heap/\(∀ b∈fp,H' b=none)/\W i m σ' H':=λ {σ7 H7} I7 n7=>by obtain⟨m',hm,w7⟩:=hN σ7 H7 n7;refine⟨m',hm,i+1,σ7,H7,I7.mK,T.keep _ _ _ st5 λ b hb o e=>(I7.pin (b,o) (List.mem_append_right _ (List.mem_append_right _ (iX hb e)))).1,λ b hb=>?_,w7⟩;obtain⟨o,e,d⟩:=T.obj _ _ st5 b hb;exact(I7.pin (b,o) (List.mem_append_right _ (List.mem_append_right _ (iX hb e)))).2.1
  cases f with
  | next=>obtain⟨σ7,H7,I7,n7⟩:=q7;exact again I7 n7
  | cont=>obtain⟨σ7,H7,I7,n7⟩:=q7;exact again I7 n7
  | brk=>obtain⟨σ7,H7,I7,q7⟩:=q7;exact⟨σ7,H7,I7.mK,q7⟩
  | ret v=>obtain⟨x7,σ7,H7,I7,r7,q7⟩:=q7;exact⟨x7,σ7,H7,I7.mK,r7,q7⟩
abbrev R2:=V->V->Hp->VK->Prop
def OpR(X:Cx)(f:Value->Value->Sem Value)(r:R2):Prop:=
 ∀ (pins:PN) (s:Shared) (σ:St) (H:Hp) (x y:V) (v u:Value) (Q:VK),Inv X pins σ H s->RelV x v->RelV y u->r x y H Q ->
  wpAny (model X.prog X.w) X.A (f v u) (EP X pins σ Q) X.xe s
def fZ(X:Cx)(f:Value)(r:List V->Hp->VK->Prop):Prop:=
 ∀ (pins:PN) (s:Shared) (σ:St) (H:Hp) (xs:List V) (us:List Value) (Q:VK),Inv X pins σ H s->Vals xs us->r xs H Q ->
  wpAny (model X.prog X.w) X.A (call f us) (EP X pins σ Q) X.xe s
def amq(X:Cx)(r:V->Hp->(Bool->Hp->Prop)->Prop):Prop:=
 ∀ (pins:PN) (s:Shared) (σ:St) (H:Hp) (x:V) (v:Value) (Q:Bool->Hp->Prop),Inv X pins σ H s->RelV x v->r x H Q ->
  wpAny (model X.prog X.w) X.A (truthy v) (TP X pins σ Q) X.xe s
def tOp(r:R2)(ta tb:TE):TE:=λ σ H Q=>ta σ H λ x H1=>tb σ H1 λ y H2=>r x y H2 Q
def rI(C:Int->Int->Prop)(g:Int->Int->V):R2:=λ x y H Q=>∃ i j,x=.int i/\y=.int j/\C i j/\Q (g i j) H
def rI0(g:Int->Int->V):R2:=λ x y H Q=>∃ i j,x=.int i/\y=.int j/\Q (g i j) H
theorem alh(ha:PE X a ta)(hb:PE X b tb){pins:PN}{s:Shared}{σ:St}{H:Hp}{R:V->V->Hp->Prop}(I:Inv X pins σ H s)
  (h:ta σ H λ x H1=>tb σ H1 λ y H2=>R x y H2){Q:VP}{f:Value->Value->Sem Value}
  (hf:∀ v u s2 x y H2,Inv X pins σ H2 s2->RelV x v->RelV y u->R x y H2->wpAny (model X.prog X.w) X.A (f v u) Q X.xe s2) :
  wpAny (model X.prog X.w) X.A (eval a X.env) (λ v s₁=>wpAny (model X.prog X.w) X.A (eval b X.env) (λ u s₂=>wpAny (model X.prog X.w) X.A (f v u) Q X.xe s₂) X.xe s₁) X.xe s:=by
 refine thn (ha pins s σ H _ I h) λ v s1 hq18=>?_;obtain⟨x,H1,I1,r1,q1⟩:=hq18;refine thn (hb pins s1 σ H1 _ I1 q1) λ u s2 hq19=>?_;obtain⟨y,H2,I2,r2,q2⟩:=hq19;exact hf v u s2 x y H2 I2 r1 r2 q2
theorem ai0(ho:OpR X (binaryOp op) r)(ha:PE X a ta)(hb:PE X b tb):PE X (.BinOp a op b pos) (tOp r ta tb):=by intro pins s σ H Q I h;exact wpAny_BinOp (alh ha hb I h λ v u s2 x y H2 I2 rx ry q=>ho pins s2 σ H2 x y v u Q I2 rx ry q)
theorem opI{g:Int->Int->Int}
  (rule:∀ (i j:Int) (t u:Tok) (s:Shared) (Q:VP) (E:VP),C i j->Q (.int (g i j) s.toks) {s with toks:=s.toks+1}->wpAny (model X.prog X.w) X.A (f (.int i t) (.int j u)) Q E s) :
  OpR X f (rI C λ i j=>.int (g i j)):=by
 intro pins s σ H x y v u Q I rx ry h;obtain⟨i,j,rfl,rfl,hc,q⟩:=h;obtain⟨t,rfl⟩:=rx;obtain⟨t',rfl⟩:=ry;exact rule i j t t' s _ _ hc ⟨.int (g i j),H,I.tok _,⟨_,rfl⟩,q⟩
theorem amb{g:Int->Int->Int}
  (rule:∀ (i j:Int) (t u:Tok) (s:Shared) (Q:VP) (E:VP),Q (.int (g i j) s.toks) {s with toks:=s.toks+1}->wpAny (model X.prog X.w) X.A (f (.int i t) (.int j u)) Q E s) :
  OpR X f (rI0 λ i j=>.int (g i j)):=by
 intro pins s σ H x y v u Q I rx ry h;obtain⟨i,j,rfl,rfl,q⟩:=h;obtain⟨t,rfl⟩:=rx;obtain⟨t',rfl⟩:=ry;exact rule i j t t' s _ _ ⟨.int (g i j),H,I.tok _,⟨_,rfl⟩,q⟩
theorem aj9{g:Int->Int->Bool}
  (rule:∀ (i j:Int) (t u:Tok) (s:Shared) (Q:VP) (E:VP),Q (.bool (g i j)) s->wpAny (model X.prog X.w) X.A (f (.int i t) (.int j u)) Q E s) :
  OpR X f (rI0 λ i j=>.bl (g i j)):=by
 intro pins s σ H x y v u Q I rx ry h;obtain⟨i,j,rfl,rfl,q⟩:=h;obtain⟨t,rfl⟩:=rx;obtain⟨t',rfl⟩:=ry;exact rule i j t t' s _ _ ⟨.bl (g i j),H,I,rfl,q⟩
def ali(i j:Int):Prop:=0<j/\j<1073741824
def ajp(i j:Int):Prop:=(-(2 ^ 64)<i/\i<2 ^ 64)\/(-(2 ^ 64)<j/\j<2 ^ 64)
theorem ajp.ok{i j:Int}(h:ajp i j):IntMulOk i j:=by
 rcases h with ⟨h1,h2⟩ | ⟨h1,h2⟩
 ·exact .of_left (intBits_le_64 h1 h2)
 ·exact .of_right (intBits_le_64 h1 h2)
theorem aj0:OpR X (binaryOp .Add) (rI0 λ i j=>.int (i+j)):=amb λ _ _ _ _ _ _ _ q=>add_int q
theorem aeE:OpR X (binaryOp .Sub) (rI0 λ i j=>.int (i-j)):=amb λ _ _ _ _ _ _ _ q=>sub_int q
theorem qM:OpR X (binaryOp .Mult) (rI ajp λ i j=>.int (i * j)):=opI λ _ _ _ _ _ _ _ hc q=>mul_int q hc.ok
theorem acn:OpR X (binaryOp .FloorDiv) (rI ali λ i j=>.int (i / j)):=opI λ i j _ _ _ _ _ hc q=>by have h1:(0:Int)<j:=hc.1;have h2:j<1073741824:=hc.2;exact floordiv_int (by omega) (by rw[Int.fdiv_eq_ediv_of_nonneg i (by omega)];exact q) (.inl (PyProof.noPylong_small (by omega)))
theorem lK:OpR X (binaryOp .Mod) (rI (λ _ j=>0<j) λ i j=>.int (i % j)):=opI λ i j _ _ _ _ _ hc q=>by have h1:(0:Int)<j:=hc;exact mod_int' (by omega) (by rw[Int.fmod_eq_emod_of_nonneg i (by omega)];exact q)
def alT:V->V->Bool
 | .non,.non=>true | .non,.int _=>true | .int _,.non=>true | .non,.bl _=>true | .bl _,.non=>true | .non,.str _=>true | .str _,.non=>true
 | .int _,.int _=>true | .bl _,.bl _=>true | .str _,.str _=>true | .byt _,.byt _=>true
 | .int _,.str _=>true | .str _,.int _=>true | .bl _,.str _=>true | .str _,.bl _=>true
 | _,_=>false
def rEq:R2:=λ x y H Q=>alT x y=true/\Q (.bl (decide (x=y))) H
def rNe:R2:=λ x y H Q=>alT x y=true/\Q (.bl (!decide (x=y))) H
theorem aag:decide (V.int i=V.int j)=(i==j):=by rw[Bool.eq_iff_iff];simp
theorem aet:decide (V.bl i=V.bl j)=(i==j):=by rw[Bool.eq_iff_iff];simp
theorem ab4:decide (V.str i=V.str j)=(i==j):=by rw[Bool.eq_iff_iff];simp
theorem aan:decide (V.byt i=V.byt j)=(i.toList==j.toList):=by rw[Bool.eq_iff_iff];cases i;cases j;simp
theorem cm(I:Inv X pins σ H s)(q:Q (.bl k) H)(e:k=k'):EP X pins σ Q (.bool k') s:=by subst e;exact⟨.bl k,H,I,rfl,q⟩
theorem akv:OpR X (compareOp .Eq) rEq:=by
 intro pins s σ H x y v u Q I rx ry h;obtain⟨hs,q⟩:=h;cases x with
 | non =>
  cases rx;cases y with
  | non=>cases ry;exact PySem.EqNone.eq_none_none (cm I q (by simp))
  | bl j=>cases ry;exact PySem.EqNone.eq_none_bool (cm I q (by simp))
  | int j=>obtain⟨t',rfl⟩:=ry;exact PySem.EqNone.eq_none_int (cm I q (by simp))
  | str j=>obtain⟨t',rfl⟩:=ry;exact PySem.EqNone.eq_none_str (cm I q (by simp))
  | _=>exact absurd (show false=true from hs) ft0
 | bl i =>
  cases rx;cases y with
  | non=>cases ry;exact PySem.EqNone.eq_bool_none (cm I q (by simp))
  | bl j=>cases ry;exact eq_bool (cm I q aet)
  | str j=>obtain⟨t',rfl⟩:=ry;exact PySem.EqMixed.eq_bool_str (cm I q (by simp))
  | _=>exact absurd (show false=true from hs) ft0
 | int i =>
  obtain⟨t,rfl⟩:=rx;cases y with
  | non=>cases ry;exact PySem.EqNone.eq_int_none (cm I q (by simp))
  | int j=>obtain⟨t',rfl⟩:=ry;exact eq_int (cm I q aag)
  | str j=>obtain⟨t',rfl⟩:=ry;exact PySem.EqMixed.eq_int_str (cm I q (by simp))
  | _=>exact absurd (show false=true from hs) ft0
 | str i =>
  obtain⟨t,rfl⟩:=rx;cases y with
  | non=>cases ry;exact PySem.EqNone.eq_str_none (cm I q (by simp))
  | bl j=>cases ry;exact PySem.EqMixed.eq_str_bool (cm I q (by simp))
  | int j=>obtain⟨t',rfl⟩:=ry;exact PySem.EqMixed.eq_str_int (cm I q (by simp))
  | str j=>obtain⟨t',rfl⟩:=ry;exact eq_str (cm I q ab4)
  | _=>exact absurd (show false=true from hs) ft0
 | byt i =>
  obtain⟨t,rfl⟩:=rx;cases y with
  | byt j=>obtain⟨t',rfl⟩:=ry;exact W.eq_bytes (cm I q aan)
  | _=>exact absurd (show false=true from hs) ft0
 | _=>cases y<;>exact absurd (show false=true from hs) ft0
theorem akO:OpR X (compareOp .NotEq) rNe:=by
 intro pins s σ H x y v u Q I rx ry h;obtain⟨hs,q⟩:=h;cases x with
 | non =>
  cases rx;cases y with
  | non=>cases ry;exact PySem.EqNone.ne_none_none (cm I q (by simp))
  | bl j=>cases ry;exact PySem.EqNone.ne_none_bool (cm I q (by simp))
  | int j=>obtain⟨t',rfl⟩:=ry;exact PySem.EqNone.ne_none_int (cm I q (by simp))
  | str j=>obtain⟨t',rfl⟩:=ry;exact PySem.EqNone.ne_none_str (cm I q (by simp))
  | _=>exact absurd (show false=true from hs) ft0
 | bl i =>
  cases rx;cases y with
  | non=>cases ry;exact PySem.EqNone.ne_bool_none (cm I q (by simp))
  | bl j=>cases ry;exact ne_bool (cm I q (congrArg not aet))
  | str j=>obtain⟨t',rfl⟩:=ry;exact PySem.EqMixed.ne_bool_str (cm I q (by simp))
  | _=>exact absurd (show false=true from hs) ft0
 | int i =>
  obtain⟨t,rfl⟩:=rx;cases y with
  | non=>cases ry;exact PySem.EqNone.ne_int_none (cm I q (by simp))
  | int j=>obtain⟨t',rfl⟩:=ry;exact ne_int (cm I q (congrArg not aag))
  | str j=>obtain⟨t',rfl⟩:=ry;exact PySem.EqMixed.ne_int_str (cm I q (by simp))
  | _=>exact absurd (show false=true from hs) ft0
 | str i =>
  obtain⟨t,rfl⟩:=rx;cases y with
  | non=>cases ry;exact PySem.EqNone.ne_str_none (cm I q (by simp))
  | bl j=>cases ry;exact PySem.EqMixed.ne_str_bool (cm I q (by simp))
  | int j=>obtain⟨t',rfl⟩:=ry;exact PySem.EqMixed.ne_str_int (cm I q (by simp))
  | str j=>obtain⟨t',rfl⟩:=ry;exact ne_str (cm I q (congrArg not ab4))
  | _=>exact absurd (show false=true from hs) ft0
 | byt i =>
  obtain⟨t,rfl⟩:=rx;cases y with
  | byt j=>obtain⟨t',rfl⟩:=ry;exact W.ne_bytes (cm I q (congrArg not aan))
  | _=>exact absurd (show false=true from hs) ft0
 | _=>cases y<;>exact absurd (show false=true from hs) ft0
theorem ah6:OpR X (compareOp .Lt) (rI0 λ i j=>.bl (decide (i<j))):=aj9 λ _ _ _ _ _ _ _ q=>lt_int q
theorem alo:OpR X (compareOp .LtE) (rI0 λ i j=>.bl (decide (i<=j))):=aj9 λ _ _ _ _ _ _ _ q=>le_int q
theorem afw:OpR X (compareOp .Gt) (rI0 λ i j=>.bl (decide (j<i))):=aj9 λ _ _ _ _ _ _ _ q=>gt_int q
theorem ad0:OpR X (compareOp .GtE) (rI0 λ i j=>.bl (decide (j<=i))):=aj9 λ _ _ _ _ _ _ _ q=>ge_int q
theorem aek:OpR X (compareOp .Is) (λ x y H Q=>y=.non/\Q (.bl (decide (x=.non))) H):=by
 intro pins s σ H x y v u Q I rx ry h;obtain⟨rfl,q⟩:=h;cases ry;refine is_none_gen (cm I q ?_);cases x<;>first
  | (cases rx;rfl)
  | (obtain⟨t,rfl⟩:=rx;rfl)
theorem afE:OpR X (compareOp .IsNot) (λ x y H Q=>y=.non/\Q (.bl (!decide (x=.non))) H):=by
 intro pins s σ H x y v u Q I rx ry h;obtain⟨rfl,q⟩:=h;cases ry;refine isnot_none_gen (cm I q ?_);cases x<;>first
  | (cases rx;rfl)
  | (obtain⟨t,rfl⟩:=rx;rfl)
theorem ag5(ho:OpR X (compareOp op) r)(ha:PE X a ta)(hb:PE X b tb)(hm:behindInMarks op b=false):PE X (.Compare a [op] [b] pos) (tOp r ta tb):=by intro pins s σ H Q I h;exact wpAny_Compare1 (alh ha hb I h λ v u s2 x y H2 I2 rx ry q=>ho pins s2 σ H2 x y v u Q I2 rx ry q) hm
def agi(t:TE):TT:=λ σ H Q=>t σ H λ x H'=>∃ k,x=.bl k/\Q k H'
theorem afS(ho:OpR X (compareOp op) r)(ha:PE X a ta)(hb:PE X b tb)(hm:behindInMarks op b=false):PT X (.Compare a [op] [b] pos) (agi (tOp r ta tb)):=by
 intro pins s σ H Q I h;refine wpAny_isTrue_Compare1 (thn (ha pins s σ H _ I h) λ v s1 ⟨x,H1,I1,r1,q1⟩=>thn (hb pins s1 σ H1 _ I1 q1) λ u s2 ⟨y,H2,I2,r2,q2⟩ =>
  thn (ho pins s2 σ H2 x y v u _ I2 r1 r2 q2) λ c s3 ⟨z,H3,I3,r3,k,e,q3⟩=>?_) hm
 subst e;cases r3;exact wpAny_truthy_bool ⟨H3,I3,q3⟩
def abI(r r':R2)(ta tb tc:TE):TE:=λ σ H Q=>ta σ H λ x H1=>tb σ H1 λ y H2=>r x y H2 λ z H3=>∃ k,z=.bl k /\
 (if k=true then tc σ H3 λ w' H4=>r' y w' H4 Q else Q (.bl false) H3)
theorem ac7(ho:OpR X (compareOp op) r)(ho':OpR X (compareOp op') r')(ha:PE X a ta)(hb:PE X b tb)(hc:PE X c tc)
  (hm:lastMarks [op,op'] [b,c]=false:=by with_unfolding_all rfl):PE X (.Compare a [op,op'] [b,c] pos) (abI r r' ta tb tc):=by
 intro pins s σ H Q I h;refine Compare_chain (thn (ha pins s σ H _ I h) λ v s1 ⟨x,H1,I1,r1,q1⟩=>chain_link (thn (hb pins s1 σ H1 _ I1 q1) λ u s2 ⟨y,H2,I2,r2,q2⟩ =>
  thn (ho pins s2 σ H2 x y v u _ I2 r1 r2 q2) λ d s3 ⟨z,H3,I3,r3,k,e,q3⟩=>?_)) hm
 subst e;cases r3;refine wpAny_truthy_bool ?_;cases k with
 | false=>exact ite_ff ⟨.bl false,H3,I3,rfl,q3⟩
 | true=>exact ite_tt (chain_last (thn (hc pins s3 σ H3 _ I3 q3) λ w' s4 ⟨z',H4,I4,r4,q4⟩=>ho' pins s4 σ H4 y z' u w' Q I4 r2 r4 q4))
theorem adA(ho:OpR X (compareOp op) r)(ho':OpR X (compareOp op') r')(ha:PE X a ta)(hb:PE X b tb)(hc:PE X c tc)
  (hm:lastMarks [op,op'] [b,c]=false:=by with_unfolding_all rfl):PT X (.Compare a [op,op'] [b,c] pos) (agi (abI r r' ta tb tc)):=by
 intro pins s σ H Q I h;refine isTrue_chain (thn (ha pins s σ H _ I h) λ v s1 ⟨x,H1,I1,r1,q1⟩=>test_link (thn (hb pins s1 σ H1 _ I1 q1) λ u s2 ⟨y,H2,I2,r2,q2⟩ =>
  thn (ho pins s2 σ H2 x y v u _ I2 r1 r2 q2) λ d s3 ⟨z,H3,I3,r3,k,e,q3⟩=>?_)) hm
 subst e;cases r3;refine wpAny_truthy_bool ?_;cases k with
 | false =>
  obtain⟨k',e',q'⟩:=q3;cases e';exact ite_ff ⟨H3,I3,q'⟩
 | true =>
  refine ite_tt (test_last (thn (hc pins s3 σ H3 _ I3 q3) λ w' s4 ⟨z',H4,I4,r4,q4⟩=>thn (ho' pins s4 σ H4 y z' u w' _ I4 r2 r4 q4) λ d' s5 hq20=>?_));obtain⟨z2,H5,I5,r5,k2,e2,q5⟩:=hq20;subst e2;cases r5;exact wpAny_truthy_bool ⟨H5,I5,q5⟩
def alb(K:FG)(x:V)(H:Hp)(k:Bool):Prop:=
 match x with
 | .non=>k=false
 | .bl b=>k=b
 | .int i=>k=(i != 0)
 | .str y=>y.length<=sizeLine/\k=((y.length:Int) != 0)
 | .byt y=>y.size<=sizeLine/\k=((y.size:Int) != 0)
 | .ref p=>(∃ xs,SqL K H p xs/\k=!xs.isEmpty)\/(∃ xs,SqT K H p xs/\k=!xs.isEmpty)\/∃ kvs,H p=some (.dK kvs)/\k=!kvs.isEmpty
 | _=>False
theorem za(r:KV kvs vs):(!vs.isEmpty)=!kvs.isEmpty:=by
 cases r<;>rfl
theorem qz(r:Vals xs its):(!its.toArray.isEmpty)=!xs.isEmpty:=by
 cases r<;>simp
theorem nE:(sizeLine:Nat)<2 ^ 63:=by rw[sizeLine_eq];decide
theorem ahZ:amq X (λ x H Q=>∃ k,alb X.K x H k/\Q k H):=by
 intro pins s σ H x v Q I rx h;obtain⟨k,e,q⟩:=h;have hl:=nE;have hs:sizeLine=16777216:=sizeLine_eq;cases x with
 | non =>
  cases rx;have e':k=false:=e;subst e';exact truthy_none ⟨H,I,q⟩
 | bl b =>
  cases rx;have e':k=b:=e;subst e';exact wpAny_truthy_bool ⟨H,I,q⟩
 | int i =>
  obtain⟨t,rfl⟩:=rx;have e':k=(i != 0):=e;subst e';exact PySem.P.truthy_int ⟨H,I,q⟩
 | str y =>
  obtain⟨t,rfl⟩:=rx;obtain⟨hy,e'⟩:y.length<=sizeLine/\k=((y.length:Int) != 0):=e;subst e';exact PySem.P.truthy_str (by omega) ⟨H,I.tok _,q⟩
 | byt y =>
  obtain⟨t,rfl⟩:=rx;obtain⟨hy,e'⟩:y.size<=sizeLine/\k=((y.size:Int) != 0):=e;subst e';exact W.truthy_bytes (by omega) ⟨H,I.tok _,q⟩
 | ref p =>
  cases rx;have e':(∃ xs,SqL X.K H p xs/\k=!xs.isEmpty)\/(∃ xs,SqT X.K H p xs/\k=!xs.isEmpty)\/∃ kvs,H p=some (.dK kvs)/\k=!kvs.isEmpty:=e;rcases e' with ⟨xs,hx,e'⟩ | ⟨xs,hx,e'⟩ | ⟨kvs,hx,e'⟩
  ·subst e';obtain⟨its,r,pl,hz⟩:=I.list hx;have hlen:=r.length;exact wpAny_truthy_list pl.isList (by simp only[List.size_toArray];omega) ⟨H,I.tok _,by rw[qz r];exact q⟩
  ·subst e';obtain⟨its,r,pl,hz⟩:=I.tuple hx;have hlen:=r.length;exact truthy_tuple pl (by simp only[List.size_toArray];omega) ⟨H,I.tok _,by rw[qz r];exact q⟩
  ·subst e';obtain⟨hz,hS,vs,r,m⟩:kvs.length<=sizeLine/\(p==sysModules)=false/\∃ vs,KV kvs vs/\s.heap.DictOf (bt X.prog X.w) p vs:=I.hok p _ hx;have hlen:kvs.length=vs.length:=Paired.length r;exact wpAny_truthy_dict hS m (by omega) ⟨H,I.tok _,by rw[za r];exact q⟩
 | _=>exact(show False from e).elim
theorem adK(ha:PE X a ta)(he:∀ whole,isTrue a X.env whole=(do let v <- whole;standAt a.pos;holding [v] (truthy v))) :
  PT X a (λ σ H Q=>ta σ H λ x H'=>∃ k,alb X.K x H' k/\Q k H'):=by
 intro pins s σ H Q I h;exact isTrue_plain (thn (ha pins s σ H _ I h) λ v s1 ⟨x,H1,I1,r1,q1⟩=>ahZ pins s1 σ H1 x v Q I1 r1 q1) (he _)
theorem zt:OpR X (binaryOp .Add) (λ x y H Q=>∃ i j,x=.str i/\y=.str j/\i.length+j.length<=sizeLine/\Q (.str (i++j)) H):=by intro pins s σ H x y v u Q I rx ry h;obtain⟨i,j,rfl,rfl,hz,q⟩:=h;obtain⟨t,rfl⟩:=rx;obtain⟨t',rfl⟩:=ry;exact add_str (λ t' tk=>⟨.str (i++j),H,I.tok _,⟨_,rfl⟩,q⟩) hz
theorem vals1(r:Vals [x] us):∃ u,us=[u]/\RelV x u:=by
 cases r with
 | cons r1 r2=>cases r2;exact⟨_,rfl,r1⟩
theorem vals2(r:Vals [x,y] us):∃ u w',us=[u,w']/\RelV x u/\RelV y w':=by
 cases r with
 | cons r1 r2 =>
  cases r2 with
  | cons r3 r4=>cases r4;exact⟨_,_,rfl,r1,r3⟩
theorem adq:fZ X (.builtin "abs") (λ xs H Q=>∃ i,xs=[.int i]/\Q (.int (if i<0 then -i else i)) H):=by intro pins s σ H xs us Q I r h;obtain⟨i,rfl,q⟩:=h;obtain⟨u,rfl,t,rfl⟩:=vals1 r;exact call_abs_int λ u tk=>⟨.int (if i<0 then -i else i),H,I.tok _,⟨_,rfl⟩,q⟩
theorem abo(hc:X.calm=true):fZ X (.builtin "max") (λ xs H Q=>∃ i j,xs=[.int i,.int j]/\Q (.int (if j > i then j else i)) H):=by
 intro pins s σ H xs us Q I r h;obtain⟨i,j,rfl,q⟩:=h;obtain⟨u,w',rfl,⟨t,rfl⟩,⟨t',rfl⟩⟩:=vals2 r;refine max_two_ints (I.ok.hd hc) λ h' tk k=>⟨_,H,I.kept k,?_,q⟩
 by_cases hj:j > i
 ·rw[if_pos hj,if_pos hj];exact⟨_,rfl⟩
 ·rw[if_neg hj,if_neg hj];exact⟨_,rfl⟩
def al1(K:FG)(x:V)(H:Hp)(n:Nat):Prop:=
 match x with
 | .str y=>y.length<=sizeLine/\n=y.length
 | .byt y=>y.size<=sizeLine/\n=y.size
 | .ref p=>(∃ xs,SqL K H p xs/\n=xs.length)\/∃ xs,SqT K H p xs/\n=xs.length
 | _=>False
theorem eR:fZ X (.builtin "len") (λ xs H Q=>∃ x n,xs=[x]/\al1 X.K x H n/\Q (.int n) H):=by
 intro pins s σ H xs us Q I r h;obtain⟨x,n,rfl,e,q⟩:=h;obtain⟨u,rfl,rx⟩:=vals1 r;have hl:=nE;have hs:sizeLine=16777216:=sizeLine_eq;cases x with
 | str y =>
  obtain⟨t,rfl⟩:=rx;obtain⟨hy,e'⟩:y.length<=sizeLine/\n=y.length:=e;subst e';exact len_str (by omega) ⟨.int _,H,I.tok _,⟨_,rfl⟩,q⟩
 | byt y =>
  obtain⟨t,rfl⟩:=rx;obtain⟨hy,e'⟩:y.size<=sizeLine/\n=y.size:=e;subst e';exact W.len_bytes (by omega) ⟨.int _,H,I.tok _,⟨_,rfl⟩,q⟩
 | ref p =>
  cases rx;have e':(∃ xs,SqL X.K H p xs/\n=xs.length)\/∃ xs,SqT X.K H p xs/\n=xs.length:=e;rcases e' with ⟨xs,hx,e'⟩ | ⟨xs,hx,e'⟩
  ·subst e';obtain⟨its,r',pl,hz⟩:=I.list hx;have hlen:=r'.length;exact Calls.call_len_list pl.isList (by simp only[List.size_toArray];omega) ⟨.int xs.length,H,I.tok _,⟨_,by simp only[List.size_toArray];rw[hlen]⟩,q⟩
  ·subst e';obtain⟨its,r',pl,hz⟩:=I.tuple hx;have hlen:=r'.length;exact len_tuple pl (by simp only[List.size_toArray];omega) ⟨.int xs.length,H,I.tok _,⟨_,by simp only[List.size_toArray];rw[hlen]⟩,q⟩
 | _=>exact(show False from e).elim
structure agT(h:Heap)(x dx C:Addr)(mA:Str->Option Value):Prop where
 obj:h.get? x=some (W.instObj C dx)
 ns:h.Ns1 dx mA
 ne:dx≠x
theorem uo{h:Heap}{dx:Addr}{mA:Str->Option Value}(n:h.Ns1 dx mA):∃ od,h.get? dx=some od/\∀ name,W.lookIn name od=some (mA name):=by
 obtain⟨o,es,ep,ho,hd,hk,_,hm⟩:=n;refine⟨o,ho,λ name=>?_⟩;have e:=hm name;unfold nsFind findBy at e;rw[<- Array.find?_toList] at e;unfold W.lookIn;rw[hd];dsimp only
 split
 ·rename_i y q
  rw[q] at e;exact congrArg some e
 ·rename_i q
  rw[q] at e;have a:es.toList.any (·.refKey)=false:=by rw[List.any_eq_false];intro y hy;obtain⟨z,t,hkey⟩:=hk y (Array.mem_toList_iff.mp hy);simp[DictEntry.refKey,hkey]
  have a':¬ es.toList.any (·.refKey)=true:=by rw[a];exact ft0
  rw[if_neg a'];exact congrArg some e
theorem agT.look(I:agT h x dx C mA):∃ od,W.InstAt h x (W.instObj C dx) C (some od)/\∀ name,W.lookIn name od=some (mA name):=
 let ⟨od,ho,hl⟩:=uo I.ns
 ⟨od,⟨I.obj,rfl,rfl,ho⟩,hl⟩
section
variable {prog:Program}{w:World}{A:Around}{E:VP}{s:Shared}{K:FG}{x dx C f:Addr}{mA:Str->Option Value}{name:Str}{v:Value}
theorem get_map(X:K.In s.heap)(I:agT s.heap x dx C mA)(hg:W.plainGet K C name=true)(hh:W.hasDictIn K C=true)
  (ha:W.findIn K (.ref C) name=some none)(hv:mA name=some v)(hv':W.handedIn v=true)(h:Q v {s with toks:=s.toks+1}) :
  wpAny (model prog w) A (getAttr (.ref x) name expr) Q E s:=by
 obtain⟨od,J,hl⟩:=I.look;exact W.get_value X J (W.plainGet_of hg).1 (W.findObj_own hh ha rfl (by rw[hl,hv])) hv' h
theorem adY(X:K.In s.heap)(I:agT s.heap x dx C mA)(hg:W.plainGet K C name=true)
  (hf:W.findIn K (.ref C) name=some (some (.ref f)))(ht:W.isFn K (.ref f)=true)(hv:mA name=none)(h:Q (.ref f,[.ref x]) s) :
  wpAny (model prog w) A (getMethod (.ref x) name pl) Q E s:=by
 obtain⟨od,J,hl⟩:=I.look;exact W.method_fn X J (W.plainGet_of hg).1 (W.plainGet_of hg).2 hf (beq_iff_eq.mp ht) (by show(W.lookIn name od).map (·.isSome)=some false;rw[hl,hv];rfl) h
theorem agV(X:K.In s.heap)(I:agT s.heap x dx C mA)
  (hs:W.findIn K (.ref C) "__setattr__" = some (some (.builtin "object.__setattr__")))(hp:W.plainOver K C=true)(ht:W.takerIn K C name=some none)(hh:W.hasDictIn K C=true)
  (hw:PySem.Within mA ns)(hsz:ns.length<=sizeLine)
  (h:∀ h',agT h' x dx C (λ y=>if y=name then some v else mA y)->Heap.SameBut dx s.heap h'->Q () {s with heap:=h',toks:=s.toks+2}) :
  wpAny (model prog w) A (setAttr (.ref x) name v) Q E s:=by
 obtain⟨od,J,hl⟩:=I.look;refine W.set_plain X J hs (W.osa_open (s:={s with toks:=s.toks+1}) (r:=none) X J hp ht λ b=>?_);obtain⟨cd,hc,hd'⟩:=W.any_some hh;have hx:s.heap.get? x=some ⟨.ref C,some dx,.plain,#[]⟩:=I.obj;refine wb0 (wp0 (wb0 (wb0 (wpAny_loadPart hx (wb0 (W.Looks.here (s:={s with toks:=s.toks+1}) (W.looks_clsIn X hc) ?_))))));rw[hd'];refine wp0 (a:=some dx) (wb0 (wp0 (wb0 ?_)));refine wpAny_nsSet1 (s:={s with toks:=s.toks+1}) I.ns λ h' hn2 hs2=>?_;obtain⟨oD,esD,epD,hoD,hdD,hcD⟩:=hn2.count (PySem.Within.cons name v hw);refine wb0 (wpAny_lookBehind hoD (by rw[hdD];exact pastItsLine_dict (Nat.le_trans hcD (by rw[List.length_cons];omega))) ?_);exact wp0 (h _ ⟨(hs2.2 _ (Ne.symm I.ne)).trans I.obj,hn2,I.ne⟩ hs2)
theorem aef(X:K.In s.heap)(hm:W.makesIn K C=true)
  (hi:W.findIn K (.ref C) "__init__" = some (some (.ref f)))(hf:W.typeIn K (.ref f)=some (.type "function"))
  (h:codeAny (model prog w) (A.under (.builtin "type.__call__" ⟨.ref C::vs,kw⟩)) (.call (.ref f) ⟨.ref (s.heap.objs.size+1)::vs,kw⟩) (W.InitBack (s.heap.objs.size+1) R)
   {s with heap:=(s.heap.push W.emptyDict).push (W.instObj C s.heap.objs.size)}) :
  codeAny (model prog w) A (.call (.ref C) ⟨vs,kw⟩) R s:=by
 obtain⟨hh,g,d,t,os⟩:=s;exact W.make_core (W.makes_of X hm) (W.looks_findIn X hi) (λ self=>W.bind_fn X self hf) (.inl rfl) h
end
def rZ(f:Str)(v:V):List (Str×V)->List (Str×V)
 | []=>[(f,v)]
 | (g,x)::r=>if g=f then (g,v)::r else (g,x)::rZ f v r
theorem mW(f g:Str)(v:V):∀ fs:List (Str×V),(rZ f v fs).lookup g=if g=f then some v else fs.lookup g
 | []=>by
  show List.lookup g [(f,v)]=_
  by_cases h:g=f
  ·have hb:(g==f)=true:=beq_iff_eq.mpr h;simp only[List.lookup,hb,if_pos h]
  ·have hb:(g==f)=false:=beq_eq_false_iff_ne.mpr h;simp only[List.lookup,hb,if_neg h]
 | (k,x)::r=>by
  have ih:=mW f g v r;rw[show rZ f v ((k,x)::r)=(if k=f then (k,v)::r else (k,x)::rZ f v r) from rfl]
  by_cases hk:k=f
  ·rw[if_pos hk]
   by_cases h:g=k
   ·have hb:(g==k)=true:=beq_iff_eq.mpr h;simp only[List.lookup,hb,if_pos (h.trans hk)]
   ·have hb:(g==k)=false:=beq_eq_false_iff_ne.mpr h;simp only[List.lookup,hb,if_neg (λ e:g=f=>h (e.trans hk.symm))]
  ·rw[if_neg hk]
   by_cases h:g=k
   ·have hb:(g==k)=true:=beq_iff_eq.mpr h;simp only[List.lookup,hb,if_neg (λ e:g=f=>hk (h.symm.trans e))]
   ·have hb:(g==k)=false:=beq_eq_false_iff_ne.mpr h;simp only[List.lookup,hb];exact ih
theorem nP(f:Str)(v:V):∀ fs:List (Str×V),f∈(rZ f v fs).map (·.1)/\∀ g,g∈fs.map (·.1)->g∈(rZ f v fs).map (·.1)
 | []=>⟨by simp[rZ],λ g h=>by simp at h⟩
 | (k,x)::r=>by
  obtain⟨i1,i2⟩:=nP f v r;rw[show rZ f v ((k,x)::r)=(if k=f then (k,v)::r else (k,x)::rZ f v r) from rfl]
  by_cases hk:k=f
  ·rw[if_pos hk];subst hk;exact⟨by simp,λ g h=>by simpa using h⟩
  ·rw[if_neg hk];refine⟨?_,λ g h=>?_⟩
   ·rw[List.map_cons];exact List.mem_cons_of_mem _ i1
   ·rw[List.map_cons] at h ⊢;rcases List.mem_cons.mp h with e | e
    ·exact List.mem_cons.mpr (.inl e)
    ·exact List.mem_cons_of_mem _ (i2 g e)
theorem ng(f:Str)(v:V):∀ fs:List (Str×V),(rZ f v fs).length<=fs.length+1
 | []=>by simp[rZ]
 | (k,x)::r=>by
  have ih:=ng f v r;rw[show rZ f v ((k,x)::r)=(if k=f then (k,v)::r else (k,x)::rZ f v r) from rfl]
  by_cases hk:k=f
  ·rw[if_pos hk,List.length_cons,List.length_cons];omega
  ·rw[if_neg hk,List.length_cons,List.length_cons];omega
theorem pA.some_of(r:pA (some v) o):∃ u,o=some u/\RelV v u:=by
 cases o with
 | none=>exact(show False from r).elim
 | some u=>exact⟨u,rfl,r⟩
theorem pA.none_of(r:pA none o):o=none:=by
 cases o with
 | none=>rfl
 | some u=>exact(show False from r).elim
theorem vt(r:RelV v u):W.handedIn u=true:=by
 cases v with
 | non=>cases (show u=Value.none from r);rfl
 | bl b=>cases (show u=Value.bool b from r);rfl
 | int i=>obtain⟨t,e⟩:=(show ∃ t,u=Value.int i t from r);cases e;rfl
 | str x=>obtain⟨t,e⟩:=(show ∃ t,u=Value.str x t from r);cases e;rfl
 | byt b=>obtain⟨t,e⟩:=(show ∃ t,u=Value.bytes b t from r);cases e;rfl
 | flt b=>obtain⟨t,e⟩:=(show ∃ t,u=Value.float b t from r);cases e;rfl
 | ref a=>cases (show u=Value.ref a from r);rfl
 | ty n=>cases (show u=Value.type n from r);rfl
theorem vP(hok:HOk P w H h)(e:H a=some (.ins C dx fs)):∃ mA,agT h a dx C mA/\(∀ f,pA (fs.lookup f) (mA f))/\PySem.Within mA (fs.map (·.1))/\fs.length<=1000/\H dx=some (.own a):=by obtain⟨d,z,ne,ob,mA,n,r,q⟩:=(show cZ P w H h a (.ins C dx fs) from hok a _ e);exact⟨mA,⟨ob,n,ne⟩,r,q,z,d⟩
structure Cls(K:FG)(C:Addr):Prop where
 pg:W.plainGet K C Str.empty=true
 hd:W.hasDictIn K C=true
 po:W.plainOver K C=true
 sa:W.findIn K (.ref C) "__setattr__" = some (some (.builtin "object.__setattr__"))
theorem Cls.get{K:FG}{C:Addr}(c:Cls K C)(f:Str):W.plainGet K C f=true:=c.pg
def cN(K:FG)(C:Addr)(f:Str):Prop:=W.findIn K (.ref C) f=some none
theorem cN.ako{K:FG}{C:Addr}{f:Str}(n:cN K C f):W.takerIn K C f=some none:=by
 unfold W.takerIn;rw[show W.findIn K (.ref C) f=some none from n];rfl
structure Meth(K:FG)(C:Addr)(m:Str)(f:Addr):Prop where
 at_:W.findIn K (.ref C) m=some (some (.ref f))
 fn:W.isFn K (.ref f)=true
 kp:W.keepIn K (.ref f)=true
theorem zr(I:Inv X pins σ H s)(e:H a=some (.ins C dx fs))(c:Cls X.K C)(n:cN X.K C f)(l:fs.lookup f=some v)
  (h:∀ u s',Inv X pins σ H s'->RelV v u->Q u s'):wpAny (model X.prog X.w) A (getAttr (.ref a) f b) Q E s:=by
 obtain⟨mA,O,r,_,_,_⟩:=vP I.hok e;obtain⟨u,hu,ru⟩:=pA.some_of (v:=v) (o:=mA f) (by rw[<- l];exact r f);exact get_map I.kIn O (c.get f) c.hd n hu (vt ru) (h u _ (I.tok _) ru)
theorem gB(I:Inv X pins σ H s)(e:H a=some (.ins C dx fs))(c:Cls X.K C)(k:Meth X.K C m g)(l:fs.lookup m=none)
  (h:Q (.ref g,[.ref a]) s):wpAny (model X.prog X.w) A (getMethod (.ref a) m pl) Q E s:=by
 obtain⟨mA,O,r,_,_,_⟩:=vP I.hok e;have hn:mA m=none:=pA.none_of (by rw[<- l];exact r m);exact adY I.kIn O (c.get m) k.at_ k.fn hn h
theorem zl(I:Inv X pins σ H s)(e:H a=some (.ins C dx fs))(c:Cls X.K C)(n:cN X.K C f)(hl:fs.length<1000)(ry:RelV y u)
  (h:∀ s',Inv X pins σ (upd H a (.ins C dx (rZ f y fs))) s'->Q () s'):wpAny (model X.prog X.w) A (setAttr (.ref a) f u) Q E s:=by
 obtain⟨mA,O,r,wi,_,ho⟩:=vP I.hok e;have hz:(fs.map (·.1)).length<=sizeLine:=by rw[lm,sizeLine_eq];omega
 refine agV I.kIn O c.sa c.po n.ako c.hd wi hz λ h' O' sb=>h _ ?_;have hd:∃ o,h'.get? dx=some o:=let ⟨o,_,_,e',_⟩:=O'.ns; ⟨o,e'⟩;refine I.write (x:=a) (e:=dx) (by rw[e];exact True.intro) (.inr ho) (λ b q hb z=>(sb.2 b hb).trans z) hd ?_;refine⟨by rw[aB O.ne];exact ho,?_,O.ne,O'.obj,_,O'.ns,λ g=>?_,λ g hg=>?_⟩
 ·have:=ng f y fs;omega
 ·show pA ((rZ f y fs).lookup g) (if g=f then some u else mA g);rw[mW]
  by_cases q:g=f
  ·rw[if_pos q,if_pos q];exact ry
  ·rw[if_neg q,if_neg q];exact r g
 ·by_cases q:g=f
  ·rw[q];exact(nP f y fs).1
  ·refine(nP f y fs).2 g (wi g λ z=>hg ?_);show(if g=f then some u else mA g)=none;rw[if_neg q];exact z
theorem Inv.made(I:Inv X pins σ H s):Inv X pins σ (upd (upd H s.heap.objs.size (.own (s.heap.objs.size+1))) (s.heap.objs.size+1) (.ins C s.heap.objs.size []))
  {s with heap:=(s.heap.push W.emptyDict).push (W.instObj C s.heap.objs.size)}:=by
 have e1:(s.heap.push W.emptyDict).get? s.heap.objs.size=some W.emptyDict:=Heap.get?_push_size s.heap rfl;have e2:((s.heap.push W.emptyDict).push (W.instObj C s.heap.objs.size)).get? (s.heap.objs.size+1)=some (W.instObj C s.heap.objs.size):=by
  have:=Heap.get?_push_size (s.heap.push W.emptyDict) (o:=W.instObj C s.heap.objs.size) rfl
  rwa[Heap.size_push] at this
 have e3:(s.heap.push W.emptyDict).Ns s.heap.objs.size (λ _=>none):=⟨W.emptyDict,#[],_,e1,rfl,(λ e he=>absurd he (by simp)),λ _=>rfl⟩;have I1:=I.laid (a:=s.heap.objs.size) (o:=.own (s.heap.objs.size+1)) (h':=s.heap.push W.emptyDict) (t':=s.toks) (λ b u q=>Heap.get?_push_of_some _ q) (lr0 _) ⟨_,e1⟩;refine I1.laid (a:=s.heap.objs.size+1) (o:=.ins C s.heap.objs.size []) (t':=s.toks) (λ b u q=>Heap.get?_push_of_some _ q) (Nat.le_of_eq (Heap.size_push _ _)) ?_;have ne:s.heap.objs.size≠s.heap.objs.size+1:=Nat.ne_of_lt (Nat.lt_succ_self _);refine⟨by rw[aB ne,aA],Nat.zero_le _,ne,e2,λ _=>none,(Heap.Ns1.of_empty e3).at λ o q=>Heap.get?_push_of_some _ q,λ _=>True.intro,λ y hy=>absurd rfl hy⟩
theorem abd(hb:attributeBase e f env (eval e env)=eval e env)
  (h:wpAny (model prog w) A (eval e env) (λ o s₁=>wpAny (model prog w) A (getAttr o f true) Q E s₁) E s):wpAny (model prog w) A (eval (.Attribute e f pos) env) Q E s:=
 Attribute_any_ h (by rw[arm_eval_Attribute,hb])
def amI(K:FG)(ta:TE)(f:Str):TE:=λ σ H Q=>ta σ H λ x H1=>∃ a C dx fs v,x=.ref a/\H1 a=some (.ins C dx fs)/\Cls K C/\cN K C f/\fs.lookup f=some v/\Q v H1
def ams(K:FG)(ta tv:TE)(f:Str):TS:=λ D σ H=>tv σ H λ y H1=>ta σ H1 λ x H2=>∃ a C dx fs,x=.ref a/\H2 a=some (.ins C dx fs)/\Cls K C/\cN K C f/\fs.length<1000 /\
 D.nx σ (upd H2 a (.ins C dx (rZ f y fs)))
theorem ain(he:PE X e ta)(hb:attributeBase e f X.env (eval e X.env)=eval e X.env):PE X (.Attribute e f pos) (amI X.K ta f):=by intro pins s σ H Q I h;refine abd hb (thn (he pins s σ H _ I h) λ u s1 hq21=>?_);obtain⟨x,H1,I1,rx,a,C,dx,fs,v,ex,ea,c,n,l,q⟩:=hq21;subst ex;obtain rfl:u=Value.ref a:=rx;exact zr I1 ea c n l λ u' s2 I2 ru=>⟨v,H1,I2,ru,q⟩
theorem ajd(ha:PE X o ta)(hv:PE X value tv)(hs:swapsWith value (some (.Attribute o f pos')) pos.line X.env=pure false):PS X (.Assign [.Attribute o f pos'] value pos) (ams X.K ta tv f):=by intro pins s σ H D I h;refine plainObj_wpAny_Assign_Attribute (thn (hv pins s σ H _ I h) λ u s1 ⟨y,H1,I1,ry,q⟩=>thn (ha pins s1 σ H1 _ I1 q) λ ov s2 ⟨x,H2,I2,rx,a,C,dx,fs,ex,ea,c,n,l,q2⟩=>?_) hs;subst ex;obtain rfl:ov=Value.ref a:=rx;exact zl I2 ea c n l ry λ s3 I3=>⟨σ,_,I3,q2⟩
structure eO(k:Nat)(A:Around):Prop where
 hd:A.handled=none
 gd:A.guards=some []
 dp:A.depth+3 * k+5<recursionLimit
 un:A.units+16 * k+200<cLine
theorem eO.mono(r:eO k A)(h:j<=k):eO j A:=⟨r.hd,r.gd,by have:=r.dp;omega,by have:=r.un;omega⟩
theorem eO.deeper(r:eO (k+1) A)(env:Env):eO k (A.deeper env):=
 ⟨r.hd,r.gd,by have:=r.dp;show A.depth+1+3 * k+5<_;omega,by have:=r.un;show A.units+3+16 * k+200<_;omega⟩
theorem zc{A:Around}{C:Addr}{us:List Value}{kw:List (Str×Value)}:(A.under (.builtin "type.__call__" ⟨.ref C::us,kw⟩)).depth=A.depth+1:=by
 first | rfl | simp[Around.under,Code.weight,Code.isCreation,Code.isGuard,Code.isCaller,Code.frames,Code.isFrame,guardIds]
theorem zx{A:Around}{C:Addr}{us:List Value}{kw:List (Str×Value)}:(A.under (.builtin "type.__call__" ⟨.ref C::us,kw⟩)).units=A.units+1:=by
 first | rfl | simp[Around.under,Code.cUnits,Code.frames,Code.isFrame]
theorem eO.make(r:eO (k+1) A)(C:Addr)(us:List Value)(kw:List (Str×Value)):eO k (A.under (.builtin "type.__call__" ⟨.ref C::us,kw⟩)):=
 ⟨r.hd,(by first | exact r.gd | (simpa [Around.under,Code.isGuard,Code.frames,Code.isFrame,guardIds] using r.gd)),by have:=r.dp;rw[zc];omega,by have:=r.un;rw[zx];omega⟩
theorem eO.depth(r:eO k A):A.depth<recursionLimit:=by have:=r.dp;omega
theorem eO.units(r:eO k A):A.units+64<cLine:=by have:=r.un;omega
def alY:TA:=λ _ H Q=>Q [] H
def alG(ta:TE)(tr:TA):TA:=λ σ H Q=>ta σ H λ x H1=>tr σ H1 λ xs H2=>Q (x::xs) H2
theorem aav:PA X [] alY:=λ _ _ _ _ H Q I h=>Calls.spliced_nil ⟨[],H,I,.nil,h⟩
theorem rF(ha:PE X e te)(hr:PA X es t)(hs:starEach (e::es) X.env=(false,eval e X.env)::starEach es X.env:=by rfl):PA X (e::es) (alG te t):=by intro pos pins s σ H Q I h;rw[hs];show wpAny _ _ (spliced ((false,eval e X.env)::backTo pos (starEach es X.env))) _ _ s;refine Calls.spliced_cons (thn (ha pins s σ H _ I h) λ u s1 hq22=>?_);obtain⟨x,H1,I1,r1,q1⟩:=hq22;exact thn (hr pos pins s1 σ H1 _ I1 q1) λ us s2 ⟨xs,H2,I2,r2,q2⟩=>⟨x::xs,H2,I2,.cons r1 r2,q2⟩
def amu(t:TA):TE:=λ σ H Q=>t σ H λ xs H1=>xs.length<=sizeLine/\∀ p,H1 p=none->Q (.ref p) (upd H1 p (.tup xs))
def amS(t:TA):TE:=λ σ H Q=>t σ H λ xs H1=>xs.length<=sizeLine/\∀ p,H1 p=none->Q (.ref p) (upd H1 p (.lst xs))
theorem aex{x1}(h:PA X es t):PE X (.Tuple es x1 pos) (amu t):=by intro pins s σ H Q I hq;refine wpAny_Tuple_spliced (thn (h pos pins s σ H _ I hq) λ us s1 ⟨xs,H1,I1,r,z,q⟩=>⟨by rw[<- r.length];exact z,?_⟩);have hf:H1 s1.heap.objs.size=none:=I1.hok.fresh (lr0 _);refine⟨.ref s1.heap.objs.size,upd H1 s1.heap.objs.size (.tup xs),I1.laid (t':=s1.toks) (λ b u e=>Heap.get?_push_of_some _ e) (lr0 _) ?_,rfl,q _ hf⟩;exact⟨z,us,r,aeh.new _ _⟩
theorem ae0(h:PA X es t):PE X (.List es pos) (amS t):=by intro pins s σ H Q I hq;refine wpAny_List_spliced (thn (h pos pins s σ H _ I hq) λ us s1 ⟨xs,H1,I1,r,z,q⟩=>⟨by rw[<- r.length];exact z,?_⟩);have hf:H1 s1.heap.objs.size=none:=I1.hok.fresh (lr0 _);refine⟨.ref s1.heap.objs.size,upd H1 s1.heap.objs.size (.lst xs),I1.laid (t':=s1.toks) (λ b u e=>Heap.get?_push_of_some _ e) (lr0 _) ?_,rfl,q _ hf⟩;exact⟨z,us,0,r,Heap.get?_push_size _ rfl⟩
abbrev Sp:=List V->Hp->VK->XK->Prop
abbrev CXT:=List Env->Hp->Shared->XK->VP
structure adp(P:Program)(w:World)(K:FG)(mg:Str->Option Value)(base:Heap)(A:Around)(outer:List Env)(s:Shared)(H:Hp):Prop where
 frames:A.frames=some outer
 mod:Mod K mg base
 bs:∀ b o,base.get? b=some o->s.heap.get? b=some o/\H b=none
 bsz:base.objs.size<=s.heap.objs.size
 sI:s.heap.FunFrames base outer
 frf:∀ b∈frs outer,H b=none
 hok:HOk P w H s.heap
 bare:AllBare s.gens
def CE(outer:List Env)(P:Program)(w:World)(H:Hp)(s:Shared)(Q:VK)(u:Value)(s':Shared):Prop:=
 ∃ v H',s'.os=s.os/\AllBare s'.gens/\Un (frs outer) [] H H' s.heap s'.heap/\HOk P w H' s'.heap/\RelV v u/\Q v H'
def CR(CX:CXT)(outer:List Env)(P:Program)(w:World)(H:Hp)(s:Shared)(Q:VK)(E:XK)(r:Result)(s':Shared):Prop:=
 match r with
 | .ok (.ret u)=>CE outer P w H s Q u s'
 | .ok _=>False
 | .error e=>CX outer H s E e s'
structure bK(P:Program)(w:World)(K:FG)(mg:Str->Option Value)(base:Heap)(CX:CXT)(k:Nat)(f:Addr)(fd:FuncData)(ps:List Str)(sp:Sp):Prop where
 len:∀ vs H Q E,sp vs H Q E->vs.length=ps.length
 run:∀ (A:Around) (outer:List Env) (s:Shared) (H:Hp) (args:Args) (us:List Value) (vs:List V) (Q:VK) (E:XK),eO k A->adp P w K mg base A outer s H->BindsTo s fd args (ps.zip us)->Vals vs us->sp vs H Q E ->
  codeAny (model P w) A (.call (.ref f) args) (CR CX outer P w H s Q E) s
theorem adp.make{P:Program}{w:World}{K:FG}{mg:Str->Option Value}{base:Heap}{A:Around}{outer:List Env}{s:Shared}{H:Hp}(e:adp P w K mg base A outer s H)(C:Addr)(us:List Value)(kw:List (Str×Value)) :
  adp P w K mg base (A.under (.builtin "type.__call__" ⟨.ref C::us,kw⟩)) outer s H:=⟨by first | exact e.frames | (simpa [Around.under,Code.envs,Code.isFrame,pushEnvs] using e.frames),e.mod,e.bs,e.bsz,e.sI,e.frf,e.hok,e.bare⟩
theorem Inv.afU(I:Inv X pins σ H s):adp X.prog X.w X.K X.mg X.base X.A X.stack s H:=
 ⟨I.ok.frames,I.ok.mod,I.bs,Nat.le_trans I.ok.bsz I.sz,I.stack,I.xq,I.hok,I.bare⟩
theorem Inv.after(I:Inv X pins σ H s)(h:CE X.stack X.prog X.w H s Q u s'):EP X pins σ Q u s':=by obtain⟨v,H',os,bare,un,hok,r,q⟩:=h;obtain⟨hh,g,d,t,os'⟩:=s';obtain rfl:os'=s.os:=os;exact⟨v,H',I.call (h':=hh) (g':=g) (d':=d) (t':=t) (ch:=[]) un hok bare (λ b z=>absurd z (by simp)),r,q⟩
def ahR(sp:Sp)(dvs:List V)(E:XK)(t:TA):TE:=λ σ H Q=>t σ H λ vs H1=>sp (vs++dvs) H1 Q E
def agh(C:Addr)(m:Str)(sp:Sp)(dvs:List V)(E:XK)(ta:TE)(t:TA):TE:=λ σ H Q=>ta σ H λ x H1=>∃ a dx fs,x=.ref a/\H1 a=some (.ins C dx fs)/\fs.lookup m=none /\
 t σ H1 λ vs H2=>sp (x::(vs++dvs)) H2 Q E
def Binds(K:FG)(fd:FuncData)(ps:List Str)(ds:List Value):Prop:=
 ∀ (s:Shared) (us:List Value),K.In s.heap->(us++ds).length=ps.length->BindsTo s fd ⟨us,[]⟩ (ps.zip (us++ds))
theorem Binds.all{K:FG}{fd:FuncData}{ps:List Str}(h:∀ us:List Value,us.length=ps.length->bindArgs fd ⟨us,[]⟩=pure (ps.zip us)):Binds K fd ps []:=λ s us _ hl=>by rw[List.append_nil] at hl ⊢;exact .of_eq (h us hl)
def Passes(CX:CXT)(X:Cx)(E:XK):Prop:=∀ (pins:PN) (σ:St) (H:Hp) (s:Shared) (e:Value) (s':Shared),Inv X pins σ H s->CX X.stack H s E e s'->X.xe e s'
theorem xK(F:bK X.prog X.w X.K X.mg X.base CX k f fd ps sp)(hr:eO k X.A)(hb:Binds X.K fd ps ds)(hd:Vals dvs ds)(hx:Passes CX X E)
  (I:Inv X pins σ H s)(r:Vals vs us)(h:sp (vs++dvs) H Q E):wpAny (model X.prog X.w) X.A (call (.ref f) us) (EP X pins σ Q) X.xe s:=by
 have r2:Vals (vs++dvs) (us++ds):=r.append hd;have hl:(us++ds).length=ps.length:=by rw[<- r2.length];exact F.len _ _ _ _ h
 refine wpAny_call (codeAny_mono (F.run X.A X.stack s H ⟨us,[]⟩ (us++ds) (vs++dvs) Q E hr I.afU (hb s us I.kIn hl) r2 h) λ r s' hq=>?_);cases r with
 | error e=>exact hx pins σ H s e s' I hq
 | ok fl =>
  cases fl with
  | ret u=>exact I.after hq
  | next=>exact False.elim hq
  | brk=>exact False.elim hq
  | cont=>exact False.elim hq
theorem agM(F:bK X.prog X.w X.K X.mg X.base CX k f fd ps sp)(hr:eO k X.A)(hg:Gl X x)(hm:X.mg x=some (.ref f))(hk:W.keepIn X.K (.ref f)=true)(hb:Binds X.K fd ps ds)(hd:Vals dvs ds)(hx:Passes CX X E)
  (ha:PA X (e::es) t)(hdb:ND x:=by decide)(he:starEach (e::es) X.env=(false,eval e X.env)::starEach es X.env:=by rfl)(hpl:(backTo pos (starEach es X.env)).any (·.1)=false:=by rfl) :
  PE X (.Call (.Name x p) (e::es) [] pos) (ahR sp dvs E t):=by
 intro pins s σ H Q I h;refine wpAny_Call_Name_kw (iL I hg hm ?_ hdb);refine W.callWith_K (h₀:=X.base) I.ok.mod.kin hk (thn (ha pos pins s σ H _ I h) λ us s1 ⟨vs,H1,I1,r,q⟩=>⟨I1.kIn,?_⟩) he hpl;exact xK F hr hb hd hx I1 r q
theorem afM(he:PE X o ta)(c:Cls X.K C)(hm:Meth X.K C m f)(F:bK X.prog X.w X.K X.mg X.base CX k f fd ps sp)(hr:eO k X.A)(hb:Binds X.K fd ps ds)(hd:Vals dvs ds)(hx:Passes CX X E)(ha:PA X (e::es) t)
  (hst:starEach (e::es) X.env=(false,eval e X.env)::starEach es X.env:=by rfl)(hpl:(backTo pos (starEach es X.env)).any (·.1)=false:=by rfl)
  (ht:eval (.Call (.Attribute o m apos) (e::es) [] pos) X.env=(do
   let ov <- eval o X.env
   standAt apos.atName
   let (f,first) <- holding [ov] (getMethod ov m pl)
   callWith pos f first (backTo pos (starEach (e::es) X.env)) (backToKw pos (keywordEach [] X.env))):=by rfl) :
  PE X (.Call (.Attribute o m apos) (e::es) [] pos) (agh C m sp dvs E ta t):=by
 intro pins s σ H Q I h;refine W.methodCall_KW (pl:=pl) (thn (he pins s σ H _ I h) λ u s1 ⟨x,H1,I1,rx,a,dx,fs,ex,ea,l,q⟩=>?_) ht;subst ex;obtain rfl:u=Value.ref a:=rx;refine gB I1 ea c hm l ?_;refine W.callWith_K (first:=[.ref a]) (h₀:=X.base) I.ok.mod.kin hm.kp (thn (ha pos pins s1 σ H1 _ I1 q) λ us s2 ⟨vs,H2,I2,r,q2⟩=>⟨I2.kIn,?_⟩) hst hpl
 exact xK (us:=.ref a::us) (vs:=.ref a::vs) F hr hb hd hx I2 (.cons rfl r) q2
theorem aee(he:PE X o ta)(c:Cls X.K C)(hm:Meth X.K C m f)(F:bK X.prog X.w X.K X.mg X.base CX k f fd ps sp)(hr:eO k X.A)(hb:Binds X.K fd ps ds)(hd:Vals dvs ds)(hx:Passes CX X E)
  (ht:eval (.Call (.Attribute o m apos) [] [] pos) X.env=(do
   let ov <- eval o X.env
   standAt apos.atName
   let (f,first) <- holding [ov] (getMethod ov m pl)
   callWith pos f first (backTo pos (starEach [] X.env)) (backToKw pos (keywordEach [] X.env))):=by rfl) :
  PE X (.Call (.Attribute o m apos) [] [] pos) (agh C m sp dvs E ta alY):=by
 intro pins s σ H Q I h;refine W.methodCall_KW (pl:=pl) (thn (he pins s σ H _ I h) λ u s1 ⟨x,H1,I1,rx,a,dx,fs,ex,ea,l,q⟩=>?_) ht;subst ex;obtain rfl:u=Value.ref a:=rx;refine gB I1 ea c hm l ?_;exact W.callWith_K0 (first:=[.ref a]) I1.kIn hm.kp (xK (us:=[.ref a]) (vs:=[.ref a]) F hr hb hd hx I1 (.cons rfl .nil) q)
structure Mk(K:FG)(C f:Addr):Prop where
 makes:W.makesIn K C=true
 init:W.findIn K (.ref C) "__init__" = some (some (.ref f))
 fn:W.isFn K (.ref f)=true
 kp:W.keepIn K (.ref C)=true
structure aL(N P:List Str)(sc:Scope):Prop where
 kind:sc.kind=.function
 co:sc.isCoroutine=false
 gen:sc.isGenerator=false
 nd:N.Nodup
 pre:N.take P.length=P
 par:∀ x∈P,sc.names.lookup x=some .local\/sc.names.lookup x=some .cell
 nofree:∀ y∈sc.names,y.2 ≠ .free
theorem sY{kindOf:Str->Option NameKind}:∀ {binds:List (Str×Value)} {m:Str->Option Value},(∀ v,(x,v) ∉ binds)->bindL kindOf binds m x=m x
 | [],_,_=>rfl
 | (n,v)::r,m,h=>by
  unfold bindL;rw[sY λ w hw=>h w (List.mem_cons_of_mem _ hw)]
  split
  ·have:x≠n:=by rintro rfl;exact h v List.mem_cons_self
   simp[this]
  ·rfl
theorem vp{kindOf:Str->Option NameKind}:∀ {binds:List (Str×Value)} {m:Str->Option Value},(∀ v,(x,v) ∉ binds)->bindC kindOf binds m x=m x
 | [],_,_=>rfl
 | (n,v)::r,m,h=>by
  unfold bindC;rw[vp λ w hw=>h w (List.mem_cons_of_mem _ hw)]
  split
  ·rfl
  ·have:x≠n:=by rintro rfl;exact h v List.mem_cons_self
   simp[this]
theorem um{kindOf:Str->Option NameKind}{v:Value}:∀ {P:List Str} {vs:List Value} {i:Nat} {m:Str->Option Value},P.Nodup->P[i]? =some x->vs[i]? =some v->kindOf x=some .local ->
  bindL kindOf (P.zip vs) m x=some v
 | [],_,_,_,_,h,_,_=>by simp at h
 | _::_,[],_,_,_,_,h,_=>by simp at h
 | p::P,w::vs,0,m,nd,h1,h2,hk=>by simp at h1 h2;subst h1;subst h2;show bindL kindOf ((p,w)::P.zip vs) m p=_;unfold bindL;rw[sY λ v hv=>(List.nodup_cons.mp nd).1 (List.of_mem_zip hv).1,if_pos hk];simp
 | p::P,w::vs,i+1,m,nd,h1,h2,hk=>by show bindL kindOf ((p,w)::P.zip vs) m x=_;unfold bindL;exact um (i:=i) (List.nodup_cons.mp nd).2 (by simpa using h1) (by simpa using h2) hk
theorem uO{kindOf:Str->Option NameKind}{v:Value}:∀ {P:List Str} {vs:List Value} {i:Nat} {m:Str->Option Value},P.Nodup->P[i]? =some x->vs[i]? =some v->kindOf x≠some .local ->
  bindC kindOf (P.zip vs) m x=some v
 | [],_,_,_,_,h,_,_=>by simp at h
 | _::_,[],_,_,_,_,h,_=>by simp at h
 | p::P,w::vs,0,m,nd,h1,h2,hk=>by simp at h1 h2;subst h1;subst h2;show bindC kindOf ((p,w)::P.zip vs) m p=_;unfold bindC;rw[vp λ v hv=>(List.nodup_cons.mp nd).1 (List.of_mem_zip hv).1,if_neg hk];simp
 | p::P,w::vs,i+1,m,nd,h1,h2,hk=>by show bindC kindOf ((p,w)::P.zip vs) m x=_;unfold bindC;exact uO (i:=i) (List.nodup_cons.mp nd).2 (by simpa using h1) (by simpa using h2) hk
def start(N:List Str)(vs:List V):St:=vs.map some++List.replicate (N.length-vs.length) none
def vD(CX:CXT)(P:Program)(w:World)(K:FG)(mg:Str->Option Value)(base:Heap)(N:List Str)(qual:Str)(scope:Scope)(f:Addr)(cd:Value)(A:Around)(outer:List Env)(s:Shared)(H:Hp)(E:XK):Cx where
 prog:=P
 w:=w
 K:=K
 mg:=mg
 base:=base
 A:=A.deeper (envOfC qual scope s.heap.objs.size f cd)
 N:=N
 s₀:=s
 H₀:=H
 env:=envOfC qual scope s.heap.objs.size f cd
 outer:=outer
 stack:=envOfC qual scope s.heap.objs.size f cd::outer
 ex:=[]
 calm:=true
 fn:=λ _=>true
 pn:=[]
 xe:=λ e s'=>wpAny (model P w) (A.deeper (envOfC qual scope s.heap.objs.size f cd)) (leaving (envOfC qual scope s.heap.objs.size f cd) e) (λ _ s''=>CX outer H s E e s'') (λ e' s''=>CX outer H s E e' s'') s'
theorem xw{sc:Scope}{n:Nat}(h:sc.names.lookup x=some .cell):∃ c,(cellsFrom n sc.names []).lookup x=some c:=by have q:=W.cellsFrom_some sc.names n [] (.inl h);exact Option.isSome_iff_exists.mp q
theorem tK{CX:CXT}{P:Program}{w:World}{K:FG}{mg:Str->Option Value}{base:Heap}{N ps:List Str}{qual:Str}{scope:Scope}{f:Addr}{cd:Value}{A:Around}{outer:List Env}{s s1:Shared}{H:Hp}{E:XK}{us:List Value}{vs:List V}
  (S:aL N ps scope)(hd:A.handled=none)(e0:adp P w K mg base A outer s H)(hl:vs.length=ps.length)(r:Vals vs us)
  (x:InCallC s s.heap.objs.size (bindL (envOfC qual scope s.heap.objs.size f cd).kindOf (ps.zip us) λ _=>none) (cellsFrom (s.heap.objs.size+1) scope.names []) (bindC (envOfC qual scope s.heap.objs.size f cd).kindOf (ps.zip us) λ _=>none) s1) :
  Inv (vD CX P w K mg base N qual scope f cd A outer s H E) [] (start N vs) H s1:=by
 have hpl:ps.length<=N.length:=by have:=congrArg List.length S.pre;rw[List.length_take] at this;omega
 obtain⟨h1,tk,rfl,hk⟩:=x.done;have noA:∀ b:Addr,b ∉ (vD CX P w K mg base N qual scope f cd A outer s H E).ex:=λ b z=>absurd (show b∈([]:List Addr) from z) (by simp);refine⟨⟨e0.mod,S.kind,rfl,rfl,lr0 _,λ y z c h1 h2=>?_,λ y hy=>?_,λ y c _ h=>?_,λ _=>hd,Around.frames_deeper e0.frames,.inr ⟨rfl,rfl⟩,λ b z=>absurd z (noA b),e0.bs,e0.bsz,λ b _ _=>noA b,λ b z=>absurd z (noA b),e0.sI,e0.frf⟩,
  rfl,e0.bare,Un.kept hk,⟨_,x.toInCall.ns,λ i y v h1 h2 h3=>?_⟩,λ y c h=>⟨_,x.cell y c h⟩,e0.hok.fresh (lr0 _),λ y c h=>?_,λ p hp=>absurd (show p∈([]:PN) from hp) (by simp),e0.hok.kept hk,?_⟩
 ·exact name_of_addr x.apart (PySem.mem_of_lookup h1) (PySem.mem_of_lookup h2)
 ·have hy:scope.names.lookup y=some .cell\/scope.names.lookup y=some .free:=hy;rcases hy with hy | hy
  ·exact xw hy
  ·exact absurd rfl (S.nofree _ (PySem.mem_of_lookup hy))
 ·exact Nat.le_of_lt (x.above y c (PySem.mem_of_lookup h))
 ·have hi:i<vs.length:=by
   unfold start at h2
   by_cases hi:i<vs.length
   ·exact hi
   ·rw[List.getElem?_append_right (by simpa using hi)] at h2;rw[List.getElem?_replicate] at h2
    split at h2<;>cases h2
  have ha:vs[i]? =some v:=by
   unfold start at h2;rw[List.getElem?_append_left (by simpa using hi),List.getElem?_map] at h2;cases e:vs[i]? with
   | none=>rw[e] at h2;cases h2
   | some a=>rw[e] at h2;cases h2;rfl
  obtain⟨u,hu,rv⟩:=r.get ha;have hp:ps[i]? =some y:=by rw[<- S.pre,List.getElem?_take_of_lt (by omega)];exact h1
  have ndP:ps.Nodup:=by rw[<- S.pre];exact S.nd.sublist (List.take_sublist _ _)
  refine⟨u,rv,?_⟩;rcases S.par y (List.mem_of_getElem? hp) with k | k
  ·exact .inl ⟨k,um ndP hp hu k⟩
  ·obtain⟨c,e⟩:=xw (n:=s.heap.objs.size+1) k;refine .inr ⟨.inl k,c,e,?_⟩;have q:=x.cell y c e;rw[uO ndP hp hu (by show scope.names.lookup y≠_;rw[k];decide)] at q;exact q
 ·exact e0.hok.fresh (Nat.le_of_lt (x.above y c (PySem.mem_of_lookup h)))
 ·unfold start;show _=N.length;rw[List.length_append,lm,List.length_replicate];omega
theorem ajA{CX:CXT}{P:Program}{w:World}{K:FG}{mg:Str->Option Value}{base:Heap}{k:Nat}{f:Addr}{name qual:Str}{params:Arguments}{body:List Stmt}{scope:Scope}{dV kV doc pm cdv ct oc:Value}{an od:Option Addr}
  {osl:Array (Option Value)}{N ps:List Str}{sp:Sp}(lk:K.lookup f=some ⟨oc,od,.func (W.fnOf name qual params body scope dV kV doc pm an cdv ct),osl⟩)(hcd:W.codeIn K cdv qual=true)(S:aL N ps scope)
  (len:∀ vs H Q E,sp vs H Q E->vs.length=ps.length)
  (hbody:∀ (A:Around) (outer:List Env) (s:Shared) (H:Hp) (vs:List V) (Q:VK) (E:XK),eO k (A.deeper (envOfC qual scope s.heap.objs.size f cdv))->sp vs H Q E ->
   ∃ t,PSs (vD CX P w K mg base N qual scope f cdv A outer s H E) body t/\t {nx:=λ _ H'=>Q .non H',rt:=Q} (start N vs) H) :
  bK P w K mg base CX (k+1) f (W.fnOf name qual params body scope dV kV doc pm an cdv ct) ps sp:=by
 refine⟨len,λ A outer s H args us vs Q E hr e0 hb r hsp=>?_⟩;have hl:=len _ _ _ _ hsp;have KX:K.In s.heap:=e0.mod.kin.keeps λ b o e=>(e0.bs b o e).1;have lim:s.heap.NoLimit:=e0.mod.nolimit.keeps λ b o e=>(e0.bs b o e).1;have hkind:∀ y∈ps.zip us,scope.names.lookup y.1=some .local\/(scope.names.lookup y.1=some .cell/\((cellsFrom (s.heap.objs.size+1) scope.names []).lookup y.1).isSome=true):=λ⟨n,v⟩ hy=>by
  rcases S.par n (List.of_mem_zip hy).1 with q | q
  ·exact .inl q
  ·exact .inr ⟨q,W.cellsFrom_some _ _ _ (.inl q)⟩
 refine codeAny_call_function hr.depth (KX _ _ lk) rfl S.co S.gen rfl (W.codeRec_of KX hcd) (hb _ _ _ _ ?_);refine wpAny_newFunctionEnv_cells S.kind hkind λ env he s1 x=>?_;subst he;refine⟨lim.keeps x.toInCall.keep,codeAny_func ?_⟩;obtain⟨t,ht,hq⟩:=hbody A outer s H vs Q E (hr.deeper _) hsp;have I:Inv (vD CX P w K mg base N qual scope f cdv A outer s H E) [] (start N vs) H s1:=tK S hr.hd e0 hl r x;refine wpAny_mono (ht [] s1 (start N vs) H _ I hq) (λ fl s' hs=>?_) λ e s' hs=>hs;have fin:∀ {σ':St} {H':Hp} {v:V} {u:Value},Inv (vD CX P w K mg base N qual scope f cdv A outer s H E) [] σ' H' s'->RelV v u->Q v H'->CE outer P w H s Q u s':=
  λ {σ' H' v u} J rv q=>⟨v,H',J.os,J.bare,J.base,J.hok,rv,q⟩
 cases fl with
 | ret u =>
  obtain⟨v,σ',H',J,rv,q⟩:=hs;exact fin J rv q
 | next =>
  obtain⟨σ',H',J,q⟩:=hs;exact fin (v:=V.non) (u:=Value.none) J rfl q
 | brk =>
  obtain⟨_,_,_,q⟩:=hs;exact False.elim q
 | cont =>
  obtain⟨_,_,_,q⟩:=hs;exact False.elim q
section
variable {X:Cx}{x:Str}{p pos:Pos}{e:Expr}{es:List Expr}{t:TA}{id T:String}{r:List V->Hp->VK->Prop}
def tCB(r:List V->Hp->VK->Prop)(t:TA):TE:=λ σ H Q=>t σ H λ vs H1=>r vs H1 Q
theorem rJ(hc:fZ X (.builtin id) r)(hg:Gl X x)(hm:X.mg x=none)(hv:bootBuiltins x=some (.builtin id))(ha:PA X (e::es) t)(hn:x ≠ "__name__":= by decide)(hdb:ND x:=by decide)
  (he:starEach (e::es) X.env=(false,eval e X.env)::starEach es X.env:=by rfl)(hpl:(backTo pos (starEach es X.env)).any (·.1)=false:=by rfl):PE X (.Call (.Name x p) (e::es) [] pos) (tCB r t):=by
 intro pins s σ H Q I h;refine wpAny_Call_Name_kw (vh I hg hm hv ?_ hn hdb);exact PyProof.Rows.callWith_builtin1 (thn (ha pos pins s σ H _ I h) λ us s1 ⟨vs,H1,I1,r1,q1⟩=>hc pins s1 σ H1 vs us Q I1 r1 q1) he hpl
theorem aaC(hc:fZ X (.type T) r)(hg:Gl X x)(hm:X.mg x=none)(hv:bootBuiltins x=some (.type T))(ha:PA X (e::es) t)(hn:x ≠ "__name__":= by decide)(hdb:ND x:=by decide)
  (he:starEach (e::es) X.env=(false,eval e X.env)::starEach es X.env:=by rfl)(hpl:(backTo pos (starEach es X.env)).any (·.1)=false:=by rfl):PE X (.Call (.Name x p) (e::es) [] pos) (tCB r t):=by
 intro pins s σ H Q I h;refine wpAny_Call_Name_kw (vh I hg hm hv ?_ hn hdb);exact PyProof.Rows.callWith_type1 (thn (ha pos pins s σ H _ I h) λ us s1 ⟨vs,H1,I1,r1,q1⟩=>hc pins s1 σ H1 vs us Q I1 r1 q1) he hpl
end
end L2
namespace HT
open PySem PyProof.Rows
section
open PySem.SeqAt
open PySem.AutoSeq1 (wpAny_loadPart')
open PySem.MeetsSeq PySem.MeetsSeq2 PySem.MeetsSeq3
end
def sIx(n d:Nat):Option Int->Nat
 | none=>d
 | some v=>if v<0 then (v+(n:Int)).toNat else min v.toNat n
theorem aiY(n d:Nat)(hd:d<=n)(o:Option Int):sIx n d o<=n:=by
 cases o with
 | none=>exact hd
 | some v =>
  show(if v<0 then (v+(n:Int)).toNat else min v.toNat n)<=n
  by_cases hv:v<0
  ·rw[if_pos hv];omega
  ·rw[if_neg hv];exact Nat.min_le_right _ _
theorem abC(v:Int)(n d:Nat):(if v<0 then max (v+(n:Int)) 0 else min v (n:Int))=((sIx n d (some v):Nat):Int):=by
 show(if v<0 then max (v+(n:Int)) 0 else min v (n:Int))=(((if v<0 then (v+(n:Int)).toNat else min v.toNat n):Nat):Int)
 by_cases hv:v<0
 ·simp only[if_pos hv];omega
 ·simp only[if_neg hv];omega
theorem zk(lo hi:Option Int)(n:Nat):Builtin.Slice.sliceAdjust lo hi 1 (n:Int)=(((sIx n 0 lo:Nat):Int),((sIx n n hi:Nat):Int)):=by
 have h1:¬ ((1:Int)<0):=by omega
 unfold Builtin.Slice.sliceAdjust;simp only[h1,if_false];refine Prod.ext ?_ ?_
 ·cases lo with
  | none=>rfl
  | some v=>exact abC v n 0
 ·cases hi with
  | none=>rfl
  | some v=>exact abC v n n
theorem yV(i j:Nat):Builtin.Slice.slicePlaces (i:Int) (j:Int) 1=j-i:=by
 unfold Builtin.Slice.slicePlaces;have h1:(1:Int) > 0:=by omega
 simp only[h1,if_true,Int.ediv_one]
 split<;>omega
theorem qN(p:IsPart v o)(h:Q o s):wpAny (model prog w) A (Builtin.Slice.slicePartIndex v) Q E s:=by
 cases p with
 | none=>exact slicePart_none h
 | int i t=>exact slicePart_int h
theorem mq{sl:Addr}{vl vu:Value}{lo hi:Option Int}{n:Nat}(hs:s.heap.IsSliceOf sl vl vu .none)(pl:IsPart vl lo)(pu:IsPart vu hi)
  (h:Q (((sIx n 0 lo:Nat):Int),1,sIx n n hi-sIx n 0 lo) s):wpAny (model prog w) A (Builtin.Slice.sliceApplied (.ref sl) (pure (n:Int))) Q E s:=by
 obtain⟨os,hos,hcs,hds⟩:=id hs;unfold Builtin.Slice.sliceApplied Builtin.Slice.sliceFields;refine wb0 (wb0 (wpAny_field hos hds (x:=vl) rfl (wb0 (wpAny_field hos hds (x:=vu) rfl (wb0 (wpAny_field hos hds (x:=.none) rfl (wp0 ?_)))))));refine wb0 (slicePart_none ?_);show wpAny _ _ (if ((1:Int)==0)=true then _ else _) _ _ s;rw[if_neg (by decide)];refine wb0 (qN pl (wb0 (qN pu (wb0 (wp0 ?_)))));show wpAny _ _ (match Builtin.Slice.sliceAdjust lo hi 1 (n:Int) with | (lo,hi)=>pure (lo,(1:Int),Builtin.Slice.slicePlaces lo hi 1)) _ _ s
 rw[zk lo hi n];show wpAny _ _ (pure (((sIx n 0 lo:Nat):Int),(1:Int),Builtin.Slice.slicePlaces ((sIx n 0 lo:Nat):Int) ((sIx n n hi:Nat):Int) 1)) _ _ s;rw[yV];exact wp0 h
theorem adB(xs:Array Value)(i k:Nat):((List.range k).filterMap λ(m:Nat)=>xs[((i:Int)+(m:Int) * 1).toNat]?).toArray=((xs.toList.drop i).take k).toArray:=by
 have e:(λ(m:Nat)=>xs[((i:Int)+(m:Int) * 1).toNat]?)=λ m=>xs[i+m]?:=by
  funext m;have:((i:Int)+(m:Int) * 1).toNat=i+m:=by omega
  rw[this]
 rw[e];have:=pick_run xs i k;rw[List.filterMap_map] at this;have e2:((λ x=>xs[x]?) ∘ λ x=>i+x)=λ m=>xs[i+m]?:=rfl;rw[e2] at this;rw[this]
theorem lz{t sl:Addr}{items:Array Value}{vl vu:Value}{lo hi:Option Int}(ht:IsTup s.heap t items)(hs:s.heap.IsSliceOf sl vl vu .none)(pl:IsPart vl lo)(pu:IsPart vu hi)
  (hw:¬ (sIx items.size 0 lo=0/\sIx items.size items.size hi=items.size))
  (h:Q (.ref s.heap.objs.size) {s with heap:=s.heap.push {cls:=.type "tuple",data:=.seq ((items.toList.drop (sIx items.size 0 lo)).take (sIx items.size items.size hi-sIx items.size 0 lo)).toArray}})
  (hsz:items.size<=sizeLine):wpAny (model prog w) A (getItem (.ref t) (.ref sl)) Q E s:=by
 have htake:sizeOk (.seq ((items.toList.drop (sIx items.size 0 lo)).take (sIx items.size items.size hi-sIx items.size 0 lo)).toArray):=by show((items.toList.drop (sIx items.size 0 lo)).take (sIx items.size items.size hi-sIx items.size 0 lo)).toArray.size<=sizeLine;rw[List.size_toArray,List.length_take,List.length_drop,Array.length_toList];omega
 have hj:sIx items.size items.size hi<=items.size:=aiY _ _ (lr0 _) hi;obtain⟨os,hos,hcs,hds⟩:=id hs;have hTs:s.TypeIs (.ref sl) "slice":= ⟨os,hos,hcs⟩;unfold getItem
 try with_reducible refine wpAny_holding ?_
 first | refine wb0 (wp0 ?_) | skip
 refine wb0 (wpAny_sequenceKey ht.typeIs (by decide) ?_);refine wb0 (wpAny_callSpecial?_slot (name:=Str.ofString "__getitem__") ht.typeIs PyProof.Rows.slot_tuple_getitem
  (wpAny_call_entry PyProof.Rows.slot_tuple_getitem ht.typeIs entry_tuple_getitem ?_ (args_tuple_getitem _ _)))
 show wpAny _ _ (Builtin.Tuple.tupleItemsOf (.ref t) >>= _) _ _ s;refine wb0 (tupleItemsOf_ ht ?_);refine wb0 (wpAny_typeOf hTs ?_);rw[if_pos (by decide)];refine wb0 (mq hs pl pu ?_);have hno:¬ ((((sIx items.size 0 lo:Nat):Int)==0&&(1:Int)==1&&(sIx items.size items.size hi-sIx items.size 0 lo)==items.size)=true):=by intro q;rw[ae00,ae00] at q;have q1:((sIx items.size 0 lo:Nat):Int)=0:=eq_of_beq q.1.1;have q2:sIx items.size items.size hi-sIx items.size 0 lo=items.size:=eq_of_beq q.2;exact hw ⟨by omega,by omega⟩
 show wpAny _ _ (if (((sIx items.size 0 lo:Nat):Int)==0&&(1:Int)==1&&(sIx items.size items.size hi-sIx items.size 0 lo)==items.size)=true then _ else _) _ _ s;rw[if_neg hno,adB]
 first
  | exact wb0 (m:=Builtin.Tuple.tupleExact _) (wpAny_newObj_type (wp0 ⟨_,rfl,wp0 h⟩) htake)
  | exact wb0 (m:=Builtin.Tuple.tupleExact _) (wpAny_newObj_type (wb0 (wp0 (wp0 ⟨_,rfl,wp0 h⟩))) htake)
  | exact wb0 (wb0 (m:=Builtin.Tuple.tupleExact _) (wpAny_newObj_type (wp0 (wp0 ⟨_,rfl,wp0 h⟩)) htake))
  | exact wb0 (wb0 (m:=Builtin.Tuple.tupleExact _) (wpAny_newObj_type (wp0 ⟨_,rfl,wp0 h⟩) htake))
end HT
namespace L2
abbrev TO:=St->Hp->(Option Int->Hp->Prop)->Prop
def PO(X:Cx)(e:Option Expr)(t:TO):Prop:=
 ∀ (pins:PN) (s:Shared) (σ:St) (H:Hp) (Q:Option Int->Hp->Prop),Inv X pins σ H s->t σ H Q ->
  wpAny (model X.prog X.w) X.A (evalPart e X.env) (λ u s'=>∃ o H',Inv X pins σ H' s'/\IsPart u o/\Q o H') X.xe s
def agQ:TO:=λ _ H Q=>Q none H
def akz(t:TE):TO:=λ σ H Q=>t σ H λ x H1=>∃ i,x=.int i/\Q (some i) H1
section
variable {X:Cx}{e:Expr}{te:TE}{lo hi:Option Expr}{tl th:TO}{pos p2:Pos}
theorem af0:PO X none agQ:=by intro pins s σ H Q I h;rw[evalPart_none];exact wp0 ⟨none,H,I,.none,h⟩
theorem afW(h:PE X e te):PO X (some e) (akz te):=by intro pins s σ H Q I hw;rw[evalPart_some];refine thn (h pins s σ H _ I hw) λ u s1 hq23=>?_;obtain⟨x,H1,I1,r1,q1⟩:=hq23;obtain⟨i,rfl,q⟩:=q1;obtain⟨t,rfl⟩:=r1;exact⟨some i,H1,I1,.int i t,q⟩
def SlR(X:Cx)(r:V->Option Int->Option Int->Hp->VK->Prop):Prop:=
 ∀ (pins:PN) (s:Shared) (σ:St) (H:Hp) (x:V) (v vl vu:Value) (lo hi:Option Int) (sl:Addr) (Q:VK),Inv X pins σ H s->RelV x v->s.heap.IsSliceOf sl vl vu .none->IsPart vl lo->IsPart vu hi->r x lo hi H Q ->
  ∃ T id,typeLookup (.type T) "__getitem__" = pure (some (.builtin id))/\s.TypeIs v T/\wpAny (model X.prog X.w) X.A (getItem v (.ref sl)) (EP X pins σ Q) X.xe s
theorem SlR.or(h:SlR X r)(h':SlR X r'):SlR X (λ x lo hi H Q=>r x lo hi H Q\/r' x lo hi H Q):=by
 intro pins s σ H x v vl vu lo hi sl Q I rx hs pl pu q;rcases q with q | q
 ·exact h pins s σ H x v vl vu lo hi sl Q I rx hs pl pu q
 ·exact h' pins s σ H x v vl vu lo hi sl Q I rx hs pl pu q
def tSl(r:V->Option Int->Option Int->Hp->VK->Prop)(te:TE)(tl th:TO):TE:=λ σ H Q=>te σ H λ x H1=>tl σ H1 λ l H2=>th σ H2 λ u H3=>r x l u H3 Q
theorem adt(hr:SlR X r)(he:PE X e te)(hl:PO X lo tl)(hu:PO X hi th):PE X (.Subscript e (.Slice lo hi none p2) pos) (tSl r te tl th):=by intro pins s σ H Q I h;refine Subscript_ (thn (he pins s σ H _ I h) λ v s1 hq24=>?_);obtain⟨x,H1,I1,r1,q1⟩:=hq24;refine wpAny_Slice (thn (hl pins s1 σ H1 _ I1 q1) λ vl s2 ⟨l,H2,I2,pl,q2⟩=>thn (hu pins s2 σ H2 _ I2 q2) λ vu s3 hq25=>?_);obtain⟨u,H3,I3,pu,q3⟩:=hq25;rw[evalPart_none];refine wp0 ?_;have I4:Inv X pins σ H3 {s3 with heap:=s3.heap.push {cls:=.type "slice",data:=.fields #[vl,vu,.none]}}:=I3.kept (t':=s3.toks) λ b ob q=>Heap.get?_push_of_some _ q;obtain⟨T,id,hT,ht,hg⟩:=hr pins {s3 with heap:=s3.heap.push {cls:=.type "slice",data:=.fields #[vl,vu,.none]}} σ H3 x v vl vu l u s3.heap.objs.size Q I4 r1 (Heap.IsSliceOf.new ..) pl pu q3;show wpAny (model X.prog X.w) X.A (subscriptTail e (.Slice lo hi none p2) v (.ref s3.heap.objs.size)) (EP X pins σ Q) X.xe {s3 with heap:=s3.heap.push {cls:=.type "slice",data:=.fields #[vl,vu,.none]}};exact tail_any (ops:=[.ref s3.heap.objs.size,v]) ht hT hg (by with_unfolding_all rfl)
def ae6(xs:List V)(lo hi:Option Int):List V:=(xs.drop (HT.sIx xs.length 0 lo)).take (HT.sIx xs.length xs.length hi-HT.sIx xs.length 0 lo)
theorem nC(xs:List V)(lo hi:Option Int):(ae6 xs lo hi).length<=xs.length:=by
 unfold ae6;rw[List.length_take,List.length_drop];omega
def alX(K:FG):V->Option Int->Option Int->Hp->VK->Prop:=λ x lo hi H Q=>∃ a xs,x=.ref a/\SqT K H a xs /\
 ¬ (HT.sIx xs.length 0 lo=0/\HT.sIx xs.length xs.length hi=xs.length)/\∀ p,H p=none->Q (.ref p) (upd H p (.tup (ae6 xs lo hi)))
theorem ah4:SlR X (alX X.K):=by
 intro pins s σ H x v vl vu lo hi sl Q I rx hs pl pu h;obtain⟨a,xs,rfl,hx,hw,q⟩:=h;cases rx;obtain⟨its,r,ht,hz⟩:=I.tuple hx;have hlen:its.toArray.size=xs.length:=by rw[List.size_toArray];exact r.length.symm
 refine⟨"tuple",_,PyProof.Rows.slot_tuple_getitem.lookup,ht.typeIs,?_⟩;refine HT.lz ht hs pl pu (by rw[hlen];exact hw) ?_ (by rw[hlen];exact hz);rw[hlen];refine⟨.ref s.heap.objs.size,_,I.laid (t':=s.toks) (o:=.tup (ae6 xs lo hi)) (λ b ob q=>Heap.get?_push_of_some _ q) (lr0 _) ?_,rfl,q _ (I.hok.fresh (lr0 _))⟩;exact⟨Nat.le_trans (nC xs lo hi) hz,_,(r.drop (HT.sIx xs.length 0 lo)).take (HT.sIx xs.length xs.length hi-HT.sIx xs.length 0 lo),aeh.new _ _⟩
end
def ixN(n:Nat)(i:Int):Option Nat:=if 0<=i then (if i<n then some i.toNat else none) else if -(n:Int)<=i then some (i+n).toNat else none
def atI(xs:List α)(i:Int):Option α:=(ixN xs.length i).bind λ j=>xs[j]?
theorem aab(h:ixN n i=some j):seqIndex? i n=some j/\j<n/\-(n:Int)<=i/\i<n:=by
 unfold ixN at h
 by_cases h0:0<=i
 ·rw[if_pos h0] at h
  by_cases h1:i<n
  ·rw[if_pos h1] at h;have e:i.toNat=j:=Option.some.inj h;exact⟨by rw[seqIndex_of h0 h1,e],by omega,by omega,h1⟩
  ·rw[if_neg h1] at h;cases h
 ·rw[if_neg h0] at h
  by_cases h1:-(n:Int)<=i
  ·rw[if_pos h1] at h;have e:(i+n).toNat=j:=Option.some.inj h;exact⟨by rw[seqIndex_neg (by omega) h1,e],by omega,h1,by omega⟩
  ·rw[if_neg h1] at h;cases h
theorem se(h:atI xs i=some v):∃ j,seqIndex? i xs.length=some j/\xs[j]? =some v/\j<xs.length/\-(xs.length:Int)<=i/\i<xs.length:=by
 unfold atI at h;cases e:ixN xs.length i with
 | none=>rw[e] at h;cases h
 | some j =>
  rw[e] at h;obtain⟨h1,h2,h3,h4⟩:=aab e;exact⟨j,h1,h,h2,h3,h4⟩
theorem vF{α:Type}{xs:List α}{j:Nat}{v:α}(h:xs[j]? =some v):atI xs (j:Int)=some v:=by
 have hj:j<xs.length:=(List.getElem?_eq_some_iff.mp h).1;have e:ixN xs.length (j:Int)=some j:=by
  unfold ixN;rw[if_pos (by omega),if_pos (by omega)];simp
 unfold atI;rw[e];exact h
def vM(b:Expr):Prop:=∀ o i,subscripted b false o i=operate [o,i] (getItem o i)
def IxR(X:Cx)(r:R2):Prop:=
 ∀ (value slice:Expr) (pins:PN) (s:Shared) (σ:St) (H:Hp) (x y:V) (v u:Value) (Q:VK),Inv X pins σ H s->RelV x v->RelV y u->r x y H Q ->
  subscripted slice false v u=operate [v,u] (getItem v u)->wpAny (model X.prog X.w) X.A (subscriptTail value slice v u) (EP X pins σ Q) X.xe s
def MtR(X:Cx)(id:String)(r:V->List V->Hp->VK->Prop):Prop:=
 ∀ (pins:PN) (s:Shared) (σ:St) (H:Hp) (x:V) (xs:List V) (v:Value) (us:List Value) (Q:VK),Inv X pins σ H s->RelV x v->Vals xs us->r x xs H Q ->
  wpAny (model X.prog X.w) X.A (call (.builtin id) (v::us)) (EP X pins σ Q) X.xe s
section
variable {X:Cx}{a b:Expr}{ta tb:TE}{pos:Pos}
theorem IxR.or(h:IxR X r)(h':IxR X r'):IxR X (λ x y H Q=>r x y H Q\/r' x y H Q):=by
 intro value slice pins s σ H x y v u Q I rx ry q hs;rcases q with q | q
 ·exact h value slice pins s σ H x y v u Q I rx ry q hs
 ·exact h' value slice pins s σ H x y v u Q I rx ry q hs
theorem akp(hr:IxR X r)(ha:PE X a ta)(hb:PE X b tb)(hs:vM b):PE X (.Subscript a b pos) (tOp r ta tb):=by intro pins s σ H Q I h;exact Subscript_ (alh ha hb I h λ v u s2 x y H2 I2 rx ry q=>hr a b pins s2 σ H2 x y v u Q I2 rx ry q (hs _ _))
def alJ(K:FG):R2:=λ x y H Q=>∃ p xs i v,x=.ref p/\y=.int i/\SqL K H p xs/\atI xs i=some v/\Q v H
def ama(K:FG):R2:=λ x y H Q=>∃ p xs i v,x=.ref p/\y=.int i/\SqT K H p xs/\atI xs i=some v/\Q v H
def alR:R2:=λ x y H Q=>∃ z i c,x=.str z/\y=.int i/\z.length<=sizeLine/\atI z.cps.toList i=some c/\Q (.str ⟨#[c]⟩) H
theorem aga:IxR X (alJ X.K):=by
 intro value slice pins s σ H x y v u Q I rx ry h hs;obtain⟨p,xs,i,z,rfl,rfl,hq,he,q⟩:=h;cases rx;obtain⟨t,rfl⟩:=ry;obtain⟨its,r,pl,hz⟩:=I.list hq;obtain⟨j,h1,h2,h3,h4,h5⟩:=se he;obtain⟨w,ew,rw'⟩:=r.get h2;have hl:=r.length;have hn:=nE;have fin:EP X pins σ Q w s:=⟨z,H,I,rw',q⟩
 by_cases h0:0<=i
 ·have hj:i.toNat=j:=by rw[seqIndex_of h0 h5] at h1;exact Option.some.inj h1
  exact item_listR pl.isList h0 (by omega) (by rw[hj];simpa using ew) fin hs
 ·have hj:(i+(its.toArray.size:Int)).toNat=j:=by rw[seqIndex_neg (by omega) h4] at h1;rw[List.size_toArray,<- hl];exact Option.some.inj h1
  exact subscriptTail_builtinR (x:=w) pl.isList.typeIs slot_list_getitem.lookup
   (wpAny_getItem_list_neg (Q:=λ r s'=>r=w/\EP X pins σ Q r s') pl.isList (by omega) (by rw[List.size_toArray]<;>omega) (by omega) (by rw[hj];simpa using ew) ⟨rfl,fin⟩) hs
theorem ajb:IxR X (ama X.K):=by
 intro value slice pins s σ H x y v u Q I rx ry h hs;obtain⟨p,xs,i,z,rfl,rfl,hq,he,q⟩:=h;cases rx;obtain⟨t,rfl⟩:=ry;obtain⟨its,r,pl,hz⟩:=I.tuple hq;obtain⟨j,h1,h2,h3,h4,h5⟩:=se he;obtain⟨w,ew,rw'⟩:=r.get h2;have hl:=r.length;have hn:=nE;have fin:EP X pins σ Q w s:=⟨z,H,I,rw',q⟩;exact subscriptTail_builtinR (x:=w) pl.typeIs slot_tuple_getitem.lookup
  (getItem_tuple (j:=j) (Q:=λ r s'=>r=w/\EP X pins σ Q r s') pl (by omega) (by omega) (by rw[List.size_toArray,<- hl];exact h1) (by simpa using ew) ⟨rfl,fin⟩) hs
theorem ah9:IxR X alR:=by
 intro value slice pins s σ H x y v u Q I rx ry h hs;obtain⟨z,i,c,rfl,rfl,hz,he,q⟩:=h;obtain⟨t,rfl⟩:=rx;obtain⟨t',rfl⟩:=ry;obtain⟨j,h1,h2,h3,h4,h5⟩:=se he;have hl:z.cps.toList.length=z.length:=by simp[Str.length]
 rw[hl] at h1 h4 h5;have hn:=nE;exact tail_any (typeIs_str s z t) slot_str_getitem.lookup (getItem_str (c:=c) (by have e1:decide (i < -(2 ^ 63:Int))=false:=decide_eq_false (by omega);have e2:decide (i >= 2 ^ 63)=false:=decide_eq_false (by omega);rw[e1,e2,Bool.or_false]) (by rw[h1];simpa using h2) ⟨.str ⟨#[c]⟩,H,I.tok _,⟨_,rfl⟩,q⟩) hs
def rIx(K:FG):R2:=λ x y H Q=>alJ K x y H Q\/ama K x y H Q\/alR x y H Q
theorem aG:IxR X (rIx X.K):=aga.or (ajb.or ah9)
theorem ze(its:List Value)(n j:Nat)(u:Value):Obj.mapSeq (·.setIfInBounds j u) {cls:=.type "list",data:=.seq its.toArray n}={cls:=.type "list",data:=.seq (its.set j u).toArray n}:=by simp[Obj.mapSeq]
theorem Inv.lst(I:Inv X pins σ H s)(h:H p=some (.lst xs)) :
  ∃ (its:List Value) (n:Nat),Vals xs its/\s.heap.get? p=some {cls:=.type "list",data:=.seq its.toArray n}/\xs.length<=sizeLine:=by
 obtain⟨z,its,n,r,e⟩:=I.hok p _ h;exact⟨its,n,r,e,z⟩
theorem Inv.aiU{xs ys:List V}{its its':List Value}{n n':Nat}(I:Inv X pins σ H s)(h:H p=some (.lst xs))
  (ho:s.heap.get? p=some {cls:=.type "list",data:=.seq its.toArray n})(hf:f {cls:=.type "list",data:=.seq its.toArray n}={cls:=.type "list",data:=.seq its'.toArray n'})(r:Vals ys its')(hz:ys.length<=sizeLine)(t:Nat) :
  Inv X pins σ (upd H p (.lst ys)) {s with heap:=s.heap.update p f,toks:=t}:=by
 have e:(s.heap.update p f).get? p=some {cls:=.type "list",data:=.seq its'.toArray n'}:=by rw[Heap.get?_update_self f ho (by rw[hf]<;>rfl),hf]
 refine I.write (x:=p) (e:=p) (by rw[h];trivial) (.inl rfl) (λ b u hb q=>(Heap.get?_update_other _ _ (Ne.symm hb)).trans q) ⟨_,e⟩ ?_;exact⟨hz,its',n',r,e⟩
def alu:V->V->V->Hp->(Hp->Prop)->Prop:=λ o i v H Q=>∃ p xs k j,o=.ref p/\i=.int k/\H p=some (.lst xs)/\ixN xs.length k=some j/\Q (upd H p (.lst (xs.set j v)))
theorem set_list:akL X alu:=by
 intro pins s σ H o i v ov iv u Q I ro ri rv h;obtain⟨p,xs,k,j,rfl,rfl,hp,hj,q⟩:=h;cases ro;obtain⟨t,rfl⟩:=ri;obtain⟨its,n,r,ho,hz⟩:=I.lst hp;obtain⟨h1,h2,h3,h4⟩:=aab hj;have hl:=r.length;have hn:=nE;have I':Inv X pins σ (upd H p (.lst (xs.set j v))) {s with heap:=s.heap.update p (Obj.mapSeq (·.setIfInBounds j u))}:=
  I.aiU hp ho (ze its n j u) (r.set rv j) (by rw[List.length_set];exact hz) s.toks
 by_cases h0:0<=k
 ·have hk:k.toNat=j:=by rw[seqIndex_of h0 h4] at h1;exact Option.some.inj h1
  exact W.ki_setAt ho h0 (by omega) (by rw[List.size_toArray,<- hl];exact h4) (by rw[hk];exact⟨_,I',q⟩)
 ·have hk:(k+(its.toArray.size:Int)).toNat=j:=by rw[seqIndex_neg (by omega) h3] at h1;rw[List.size_toArray,<- hl];exact Option.some.inj h1
  exact W.ki_setBack ho (by omega) (by rw[List.size_toArray,<- hl];exact h3) (by omega) (by rw[hk];exact⟨_,I',q⟩)
theorem uu(lo hi:Option Int)(n:Nat):(sliceBounds lo hi none n).1=((HT.sIx n 0 lo:Nat):Int)/\(sliceBounds lo hi none n).2.1=((HT.sIx n n hi:Nat):Int)/\(sliceBounds lo hi none n).2.2=1:=by
 refine⟨?_,?_,rfl⟩
 ·cases lo with
  | none=>simp[sliceBounds,HT.sIx]
  | some i =>
   simp only[sliceBounds,HT.sIx,Option.getD_none,show(1:Int) > 0 by decide,if_true]
   by_cases h:i<0
   ·simp only[h,if_true]<;>omega
   ·simp only[h,if_false]<;>omega
 ·cases hi with
  | none=>simp[sliceBounds,HT.sIx]
  | some i =>
   simp only[sliceBounds,HT.sIx,Option.getD_none,show(1:Int) > 0 by decide,if_true]
   by_cases h:i<0
   ·simp only[h,if_true]<;>omega
   ·simp only[h,if_false]<;>omega
theorem rO(its:List Value)(lo hi:Option Int):slicePick its.toArray lo hi none=((its.drop (HT.sIx its.length 0 lo)).take (HT.sIx its.length its.length hi-HT.sIx its.length 0 lo)).toArray:=by obtain⟨h1,h2,h3⟩:=uu lo hi its.toArray.size;unfold slicePick;rw[h1,h2,h3];simp only[sliceRange_one,pick_run,List.size_toArray]<;>rfl
def al7(K:FG):V->Option Int->Option Int->Hp->VK->Prop:=λ x lo hi H Q=>∃ a xs,x=.ref a/\SqL K H a xs/\∀ p,H p=none->Q (.ref p) (upd H p (.lst (ae6 xs lo hi)))
theorem afR:SlR X (al7 X.K):=by intro pins s σ H x v vl vu lo hi sl Q I rx hs pl pu h;obtain⟨a,xs,rfl,hx,q⟩:=h;cases rx;obtain⟨its,r,ht,hz⟩:=I.list hx;have hlen:=r.length;refine⟨"list",_,slot_list_getitem.lookup,ht.isList.typeIs,?_⟩;refine wpAny_getItem_list_slice ht.isList hs pl pu .none (by simp) ?_ (by rw[List.size_toArray]<;>omega);rw[rO,<- hlen];refine⟨.ref s.heap.objs.size,_,I.laid (t':=s.toks) (o:=.lst (ae6 xs lo hi)) (λ b ob q=>Heap.get?_push_of_some _ q) (lr0 _) ?_,rfl,q _ (I.hok.fresh (lr0 _))⟩;exact⟨Nat.le_trans (nC xs lo hi) hz,_,0,(r.drop (HT.sIx xs.length 0 lo)).take (HT.sIx xs.length xs.length hi-HT.sIx xs.length 0 lo),Heap.get?_push_size _ rfl⟩
def pN:V->Bool
 | .non=>true
 | .bl _=>true
 | .int _=>true
 | .str _=>true
 | _=>false
def eqV:V->V->Bool
 | .non,.non=>true
 | .bl a,.bl b=>a==b
 | .bl a,.int b=>(if a then 1 else 0)==b
 | .int a,.bl b=>a==(if b then 1 else 0)
 | .int a,.int b=>a==b
 | .str a,.str b=>a==b
 | _,_=>false
theorem ajB(ry:RelV y u)(rx:RelV x v)(fy:pN y=true)(fx:pN x=true):SeqAt.EqAt A s u v (eqV y x):=by
 cases y with
 | non =>
  cases ry;cases x with
  | non=>cases rx;exact SeqAt.EqAt.same _
  | bl b=>cases rx;exact SeqAt.EqAt.none_bool b
  | int b=>obtain⟨t,rfl⟩:=rx;exact SeqAt.EqAt.none_int b t
  | str b=>obtain⟨t,rfl⟩:=rx;exact SeqAt.EqAt.none_str b t
  | _=>exact absurd (show false=true from fx) ft0
 | bl a =>
  cases ry;cases x with
  | non=>cases rx;exact SeqAt.EqAt.bool_none a
  | bl b=>cases rx;exact SeqAt.EqAt.bool_bool a b
  | int b=>obtain⟨t,rfl⟩:=rx;exact SeqAt.EqAt.bool_int a b t
  | str b=>obtain⟨t,rfl⟩:=rx;exact SeqAt.EqAt.bool_str a b t
  | _=>exact absurd (show false=true from fx) ft0
 | int a =>
  obtain⟨t',rfl⟩:=ry;cases x with
  | non=>cases rx;exact SeqAt.EqAt.int_none a t'
  | bl b=>cases rx;exact SeqAt.EqAt.int_bool a t' b
  | int b=>obtain⟨t,rfl⟩:=rx;exact SeqAt.EqAt.int_int a t' b t
  | str b=>obtain⟨t,rfl⟩:=rx;exact SeqAt.EqAt.int_str a t' b t
  | _=>exact absurd (show false=true from fx) ft0
 | str a =>
  obtain⟨t',rfl⟩:=ry;cases x with
  | non=>cases rx;exact SeqAt.EqAt.str_none a t'
  | bl b=>cases rx;exact SeqAt.EqAt.str_bool a t' b
  | int b=>obtain⟨t,rfl⟩:=rx;exact SeqAt.EqAt.str_int a t' b t
  | str b=>obtain⟨t,rfl⟩:=rx;exact SeqAt.EqAt.str_str a t' b t
  | _=>exact absurd (show false=true from fx) ft0
 | _=>exact absurd (show false=true from fy) ft0
def eqU(x:V)(u:Value):Bool:=match u with
 | .none=>eqV .non x
 | .bool b=>eqV (.bl b) x
 | .int i _=>eqV (.int i) x
 | .str z _=>eqV (.str z) x
 | _=>false
theorem aeA(r:RelV y u)(f:pN y=true):eqU x u=eqV y x:=by
 cases y with
 | non=>cases r;rfl
 | bl b=>cases r;rfl
 | int i=>obtain⟨t,rfl⟩:=r;rfl
 | str z=>obtain⟨t,rfl⟩:=r;rfl
 | _=>exact absurd (show false=true from f) ft0
theorem nK:∀ {xs:List V} {us:List Value},Vals xs us->xs.all pN=true->us.any (eqU x)=xs.any λ y=>eqV y x
 | _,_,.nil,_=>rfl
 | y::xs,u::us,.cons r t,f=>by rw[List.all_cons,ae00] at f;rw[List.any_cons,List.any_cons,aeA r f.1,nK t f.2]
theorem kJ(rx:RelV x v)(fx:pN x=true):∀ {xs:List V} {us:List Value},Vals xs us->xs.all pN=true->∀ u∈us,SeqAt.EqAt A s u v (eqU x u)
 | _,_,.nil,_=>λ u hu=>by cases hu
 | y::xs,u::us,.cons r t,f=>λ u' hu=>by
  rw[List.all_cons,ae00] at f;rcases List.mem_cons.mp hu with rfl | hu
  ·rw[aeA r f.1];exact ajB r rx f.1 fx
  ·exact kJ rx fx t f.2 u' hu
def inV(x:V)(xs:List V):Bool:=xs.any λ y=>eqV y x
def rIn(K:FG)(neg:Bool):R2:=λ x y H Q=>∃ p xs,y=.ref p/\(SqL K H p xs\/SqT K H p xs)/\pN x=true/\xs.all pN=true/\Q (.bl (if neg then !inV x xs else inV x xs)) H
theorem gz:OpR X (compareOp .In) (rIn X.K false):=by
 intro pins s σ H x y v u Q I rx ry h;obtain⟨p,xs,rfl,hq,fx,fs,q⟩:=h;cases ry;rcases hq with hq | hq
 ·obtain⟨its,r,pl,hz⟩:=I.list hq;refine SeqAt.in_listAt (eqU x) pl.isList (λ w hw=>kJ rx fx r fs w (by simpa using hw)) ⟨.bl _,H,I,rfl,?_⟩;rw[show its.toArray.any (eqU x)=its.any (eqU x) by simp,nK r fs];exact q
 ·obtain⟨its,r,pl,hz⟩:=I.tuple hq;refine SeqAt.in_tupleAt (eqU x) pl (λ w hw=>kJ rx fx r fs w (by simpa using hw)) ⟨.bl _,H,I,rfl,?_⟩;rw[show its.toArray.any (eqU x)=its.any (eqU x) by simp,nK r fs];exact q
theorem lB:OpR X (compareOp .NotIn) (rIn X.K true):=by
 intro pins s σ H x y v u Q I rx ry h;obtain⟨p,xs,rfl,hq,fx,fs,q⟩:=h;cases ry;rcases hq with hq | hq
 ·obtain⟨its,r,pl,hz⟩:=I.list hq;refine SeqAt.notIn_listAt (eqU x) pl.isList (λ w hw=>kJ rx fx r fs w (by simpa using hw)) ⟨.bl _,H,I,rfl,?_⟩;rw[show its.toArray.any (eqU x)=its.any (eqU x) by simp,nK r fs];exact q
 ·obtain⟨its,r,pl,hz⟩:=I.tuple hq;refine SeqAt.notIn_tupleAt (eqU x) pl (λ w hw=>kJ rx fx r fs w (by simpa using hw)) ⟨.bl _,H,I,rfl,?_⟩;rw[show its.toArray.any (eqU x)=its.any (eqU x) by simp,nK r fs];exact q
theorem bO:fZ X (.type "list") (λ xs H Q=>∃ p ys,xs=[.ref p]/\(SqL X.K H p ys\/SqT X.K H p ys)/\∀ l,H l=none->Q (.ref l) (upd H l (.lst ys))):=by
 intro pins s σ H xs us Q I r h;obtain⟨p,ys,rfl,hq,q⟩:=h;obtain⟨u,rfl,rx⟩:=vals1 r;cases rx;have fin:∀ (its:List Value),Vals ys its->ys.length<=sizeLine->∀ (h':Heap) (c':Nat),(∀ b o',s.heap.get? b=some o'->h'.get? b=some o') ->
   h'.get? s.heap.objs.size=some {cls:=.type "list",dict:=none,data:=.seq its.toArray c',slots:=#[]}->EP X pins σ Q (.ref s.heap.objs.size) {s with heap:=h'}:=λ its r' hz h' c' kp e =>
  ⟨.ref s.heap.objs.size,_,I.laid (t':=s.toks) kp (lr0 _) (show cZ X.prog X.w _ h' _ (.lst ys) from⟨hz,its,c',r',e⟩),rfl,q _ (I.hok.fresh (lr0 _))⟩
 rcases hq with hq | hq
 ·obtain⟨its,r',pl,hz⟩:=I.list hq;have hlen:=r'.length;obtain⟨o,ho,hc,n,hd⟩:=pl.isList;exact call_list_seq p (.inl rfl) ho hc hd (λ h' c' kp e=>fin its r' hz h' c' kp e) (by simp only[List.size_toArray]<;>omega)
 ·obtain⟨its,r',pl,hz⟩:=I.tuple hq;have hlen:=r'.length;obtain⟨o,ho,hc,n,hd⟩:=pl;exact call_list_seq p (.inr rfl) ho hc hd (λ h' c' kp e=>fin its r' hz h' c' kp e) (by simp only[List.size_toArray]<;>omega)
theorem sD:fZ X (.type "tuple") (λ xs H Q=>∃ p ys,xs=[.ref p]/\((SqL X.K H p ys/\∀ l,H l=none->Q (.ref l) (upd H l (.tup ys)))\/(SqT X.K H p ys/\Q (.ref p) H))):=by
 intro pins s σ H xs us Q I r h;obtain⟨p,ys,rfl,h⟩:=h;obtain⟨u,rfl,rx⟩:=vals1 r;cases rx;rcases h with ⟨hq,q⟩ | ⟨hq,q⟩
 ·obtain⟨its,r',pl,hz⟩:=I.list hq;have hlen:=r'.length;refine call_tuple_list pl.isList (λ h' kp=>?_) (by simp only[List.size_toArray]<;>omega);have I1:Inv X pins σ H {s with heap:=h'}:=I.kept (t':=s.toks) kp;have I2:Inv X pins σ (upd H h'.objs.size (.tup ys)) {s with heap:=h'.push {cls:=.type "tuple",data:=.seq its.toArray}}:=
   I1.laid (t':=s.toks) (λ b o e=>Heap.get?_push_of_some _ e) (lr0 _) (show cZ X.prog X.w _ _ _ (.tup ys) from⟨hz,its,r',aeh.new _ _⟩)
  exact⟨.ref h'.objs.size,_,I2,rfl,q _ (I1.hok.fresh (lr0 _))⟩
 ·obtain⟨its,r',pl,hz⟩:=I.tuple hq;exact call_tuple_same pl ⟨.ref p,H,I,rfl,q⟩
def tyV(K:FG)(T:String)(x:V)(H:Hp):Prop:=match x with
 | .str _=>T = "str"
 | .int _=>T = "int"
 | .ref p=>(T = "list" /\ ∃ xs,SqL K H p xs)\/(T = "tuple" /\ ∃ xs,SqT K H p xs) \/
   (T = "dict" /\ ((∃ kvs,H p=some (.dK kvs))\/∃ kvs,H p=some (.dT kvs)))\/(T = "set" /\ ∃ S n,H p=some (.set S n))
 | _=>False
theorem ais(I:Inv X pins σ H s)(r:RelV x v)(ty:tyV X.K T x H) :
  s.TypeIs v T/\∀ a,v=.ref a->∃ ob,s.heap.get? a=some ob/\ob.dict=none:=by
 cases x with
 | str z =>
  obtain⟨t,rfl⟩:=r;cases (show T = "str" from ty);exact⟨typeIs_str s z t,λ _ e=>nomatch e⟩
 | int i =>
  obtain⟨t,rfl⟩:=r;cases (show T = "int" from ty);exact⟨typeIs_int s i t,λ _ e=>nomatch e⟩
 | ref p =>
  cases r;rcases ty with ⟨rfl,xs,hq⟩ | ⟨rfl,xs,hq⟩ | ⟨rfl,hk⟩ | ⟨rfl,S,n,hk⟩
  ·obtain⟨its,_,pl,_⟩:=I.list hq;refine⟨pl.isList.typeIs,λ a e=>?_⟩;cases e;obtain⟨o,n,e,c,hd,_⟩:=pl;exact⟨o,e,hd⟩
  ·obtain⟨its,_,⟨o,h1,h2,h3,_⟩,_⟩:=I.al4 hq;refine⟨⟨o,h1,h2⟩,λ a e=>?_⟩;cases e;exact⟨o,h1,h3⟩
  ·have z:∃ o,s.heap.get? p=some o/\o.ExactDict:=by
    rcases hk with ⟨kvs,hk⟩ | ⟨kvs,hk⟩
    ·obtain⟨_,_,_,_,o,_,_,e,ex,_⟩:=I.hok p _ hk;exact⟨o,e,ex⟩
    ·obtain⟨_,_,_,_,o,_,_,e,ex,_⟩:=I.hok p _ hk;exact⟨o,e,ex⟩
   obtain⟨o,e,ex⟩:=z;refine⟨⟨o,e,ex.1⟩,λ a e2=>?_⟩;cases e2;exact⟨o,e,ex.2.1⟩
  ·obtain⟨o,_,_,_,e,ex,_⟩:=I.hok p _ hk;refine⟨⟨o,e,ex.1⟩,λ a e2=>?_⟩;cases e2;exact⟨o,e,ex.2.1⟩
 | _=>exact False.elim ty
def tBM(K:FG)(T:String)(r:V->List V->Hp->VK->Prop)(to:TE)(t:TA):TE:=λ σ H Q=>to σ H λ x H1=>tyV K T x H1/\t σ H1 λ xs H2=>r x xs H2 Q
variable {o e:Expr}{es:List Expr}{to:TE}{t:TA}{name:Str}{apos cpos:Pos}{T id:String}{r:V->List V->Hp->VK->Prop}
theorem ac9(pa:PlainAttrs T)(slot:Slot T name id)(hty:typeOf (.builtin id)=pure (.type "method_descriptor"))(hm:MtR X id r)(ho:PE X o to)(ha:PA X (e::es) t)
  (hbase:attributeBase o name X.env (eval o X.env)=eval o X.env:=by rfl)
  (hfew:((backTo cpos (starEach (e::es) X.env)).all (λ x=>!x.1)&&(backToKw cpos (keywordEach [] X.env)).all (λ x=>x.1.isSome)
   && decide ((e::es).length+([]:List Keyword).length+(if ([]:List Keyword).isEmpty then 0 else 1)<30))=true:=by rfl)
  (hline:(apos.endLine==cpos.line)=true:=by rfl)(hs:starEach (e::es) X.env=(false,eval e X.env)::starEach es X.env:=by rfl)(hplain:(backTo cpos (starEach es X.env)).any (·.1)=false:=by rfl) :
  PE X (.Call (.Attribute o name apos) (e::es) [] cpos) (tBM X.K T r to t):=by
 intro pins s σ H Q I h;refine wpAny_Call_method_late hbase hfew hline rfl (thn (ho pins s σ H _ I h) λ v s1 hq26=>?_);obtain⟨x,H1,I1,r1,ty,q1⟩:=hq26;obtain⟨h1,h2⟩:=ais I1 r1 ty;refine⟨T,id,pa,slot,hty,h1,h2,?_⟩;have hA:=ha cpos pins s1 σ H1 _ I1 q1;rw[hs] at hA ⊢;refine Calls.callWith_builtin (by show(false || (backTo cpos (starEach es X.env)).any (·.1))=false;rw[hplain]<;>rfl) (Calls.evalArgs_plain ?_);exact thn hA λ us s2 ⟨vs,H2,I2,r2,q2⟩=>hm pins s2 σ H2 x vs v us Q I2 r1 r2 q2
end
def MtM(X:Cx)(id:String)(r:V->List V->Hp->VK->Prop):Prop:=
 ∀ (pins:PN) (s:Shared) (σ:St) (H:Hp) (x:V) (xs:List V) (v:Value) (us:List Value) (Q:VK),Inv X pins σ H s->RelV x v->Vals xs us->r x xs H Q ->
  wpAny (model X.prog X.w) X.A (call (.builtin id) (v::us)) (EP X pins σ Q) X.xe s
theorem Vals.one:∀ {x:V} {us:List Value},Vals [x] us->∃ u,us=[u]/\RelV x u
 | _,_,.cons r .nil=>⟨_,rfl,r⟩
theorem Vals.eraseIdx:∀ {xs:List V} {us:List Value} (i:Nat),Vals xs us->Vals (xs.eraseIdx i) (us.eraseIdx i)
 | _,_,_,.nil=>.nil
 | _,_,0,.cons _ t=>t
 | _,_,i+1,.cons r t=>.cons r (Vals.eraseIdx i t)
theorem Vals.rep(h:Vals xs us):∀ k:Nat,Vals (List.replicate k xs).flatten (List.replicate k us).flatten
 | 0=>.nil
 | k+1=>by rw[List.replicate_succ,List.replicate_succ,List.flatten_cons,List.flatten_cons];exact Vals.append h (Vals.rep h k)
theorem foldl_rep(its:List Value):∀ (k:Nat) (acc:List Value),
  List.foldl (λ x1 x2=>x1++x2) acc.toArray (List.replicate k its.toArray)=(acc++(List.replicate k its).flatten).toArray
 | 0,acc=>by simp
 | k+1,acc=>by
  have e:acc.toArray++its.toArray=(acc++its).toArray:=by simp
  have e2:(acc++its)++(List.replicate k its).flatten=acc++(List.replicate (k+1) its).flatten:=by rw[List.replicate_succ,List.flatten_cons,List.append_assoc]
  rw[<- e2,<- foldl_rep its k (acc++its),<- e,List.replicate_succ,List.foldl_cons]
theorem Inv.alO{its its':List Value}{n:Nat}{t':Nat}(I:Inv X pins σ H s)(hH:H l=some (.lst xs))
  (e:s.heap.get? l=some {cls:=.type "list",data:=.seq its.toArray n})(hf:f its.toArray=its'.toArray)(hv:Vals ys its')(hz:ys.length<=sizeLine) :
  Inv X pins σ (upd H l (.lst ys)) {s with heap:=s.heap.update l (Obj.mapSeq f),toks:=t'}:=by
 have q:=PySem.IsL.update e f;rw[hf] at q;refine I.write (x:=l) (e:=l) (by rw[hH];exact trivial) (.inl rfl) (λ b' u hb hu=>(Heap.get?_update_other s.heap (Obj.mapSeq f) (Ne.symm hb)).trans hu) ⟨_,q⟩ ?_;exact⟨hz,its',_,hv,q⟩
theorem Inv.al8(I:Inv X pins σ H s)(hv:Vals ys its)(hz:ys.length<=sizeLine) :
  Inv X pins σ (upd H s.heap.objs.size (.lst ys)) {s with heap:=s.heap.push {cls:=.type "list",data:=.seq its.toArray},toks:=t'}:=
 I.laid (λ _ _ q=>Heap.get?_push_of_some _ q) (lr0 _) ⟨hz,its,0,hv,Heap.get?_push_size _ rfl⟩
theorem Inv.fresh(I:Inv X pins σ H s):H s.heap.objs.size=none:=I.hok.fresh (lr0 _)
theorem Inv.alZ(I:Inv X pins σ H s)(hH:H l=some (.lst xs)):xs.length<=sizeLine/\∃ (its:List Value) (n:Nat),Vals xs its/\xs.length=its.length/\s.heap.get? l=some {cls:=.type "list",data:=.seq its.toArray n}:=by obtain⟨z,its,n,r,e⟩:=I.hok l _ hH;exact⟨z,its,n,r,r.length,e⟩
theorem ac2{n:Nat}(h:n<=sizeLine):Builtin.List.listTooLong n=false:=by
 unfold Builtin.List.listTooLong;exact decide_eq_false (by omega)
def afI:V->List V->Hp->VK->Prop:=λ x vs H Q=>∃ l xs y,x=.ref l/\vs=[y]/\H l=some (.lst xs)/\xs.length<sizeLine/\Q .non (upd H l (.lst (xs++[y])))
theorem aay:MtM X "list.append" afI:=by intro pins s σ H x vs v us Q I rx rv h;obtain⟨l,xs,y,rfl,rfl,hH,hz,q⟩:=h;cases rx;obtain⟨u,rfl,ru⟩:=rv.one;obtain⟨z,its,n,r,hl,e⟩:=I.alZ hH;refine call_meets F.slot_list_append ⟨_,e,rfl⟩ F.entry_list_append (F.args_list_append_2 _ _) (PySem.list_append l its.toArray n u (by rw[List.size_toArray];omega)) ⟨e,?_⟩;refine⟨.non,_,I.alO (its':=its++[u]) hH e (by simp) (r.append (.cons ru .nil)) ?_,rfl,q⟩;rw[List.length_append,List.length_singleton];omega
theorem len_rep(xs:List α)(k:Nat):(List.replicate k xs).flatten.length=k * xs.length:=by
 induction k with
 | zero=>simp
 | succ k ih=>rw[List.replicate_succ,List.flatten_cons,List.length_append,ih,Nat.succ_mul,Nat.add_comm]
end L2
namespace Att
open PySem PySem.W PySem.Calls PyProof.Rows
theorem m9:∀ (ns:List Int) (vs:List Value),WellAll P h vs (ns.map WData.int)->IntsAre vs ns:=by
 intro ns
 induction ns with
 | nil =>
  intro vs w;rw[List.map_nil] at w;cases w;exact .nil
 | cons n ns ih =>
  intro vs w;rw[List.map_cons] at w;cases w with
  | cons a b =>
   cases a;exact .cons _ _ (ih _ b)
theorem aaQ{l:OpenLaw}{n:Nat}(hn:l.most=some n){args:List WData}{vals:List Value}
  (hpre:l.row.toRowW.claim.pre args=true)(hwl:WellAll P h vals args) :
  ∃ a vs ns,vals=[Value.ref a]/\args=[WData.list (ns.map WData.int)]/\h.get? a=some {cls:=.type "list",data:=.seq vs.toArray}/\IntsAre vs ns/\ns.length<=n:=by
 have hsh:WShape.hasAll [] args [.list .int]=true:=(pre_splitW hpre).1;have hc:l.pre.holds [] {args:=args}=true:=(pre_splitW hpre).2;obtain⟨d,r,rfl,h1,h2⟩:=hasAllW_cons hsh;obtain rfl:=hasAllW_nil h2;obtain⟨xs,rfl,h3⟩:=hasW_list h1;obtain⟨ns,rfl⟩:=items_int h3;have hlen:ns.length<=n:=by
  unfold OpenLaw.pre at hc;have h4:(WTm.not (.lt (.lit (.int (n:Int))) (.len (.arg 0)))).holds [] {args:=[.list (ns.map .int)]}=true:=by have h4:=(holds_andW hc).1;rw[hn] at h4;exact h4
  have h5:=condW_of h4 (w_not (w_lt w_lit (w_len_list (w_arg rfl))));rw[lm] at h5;refine Nat.le_of_not_lt λ q=>?_;have q':(n:Int)<((ns.length:Nat):Int):=by omega
  first
   | (rw[decide_eq_true q'] at h5;exact absurd h5 (by decide))
   | (simp at h5;omega)
 cases hwl with
 | cons w1 w2 =>
  cases w2;cases w1 with
  | list ho hall=>exact⟨_,_,ns,rfl,rfl,ho,m9 ns _ hall,hlen⟩
theorem ab7(l:OpenLaw)(args:List WData):l.row.toRowW.claim.post args (.bool true) args=true:=
 postW_of (r:=l.row.toRowW) (X:=(true==true))
  (show WShape.has [] (.bool true) .bool=true by first | rfl | decide | simp[WShape.has,WShape.arms,WShape.armsAll])
  (show(WTm.eq .res (.lit (.bool true))).value [] {args:=args,res:=some (.bool true),after:=args}=some (.bool (true==true)) from w_eq_bool (w_res rfl) w_lit) rfl
theorem wt{l:OpenLaw}{n:Nat}{q:Program}{loose:List Str}{XP:(Str->Option Value)->Heap->Prop}{YP:World->Heap->Prop}{d:DefRec}
  (hn:l.most=some n)(hdf:d.params.defaults=[])
  (call:∀ (w:World) (s₀ s₁:Shared) (mg mb:Str->Option Value) (fa:Addr) (o:Obj) (pm cd doc:Value) (a:Addr) (vs:List Value) (ns:List Int),
   Ground q loose [] XP w s₀ mg mb s₁.heap->YP w s₁.heap ->
   s₁.heap.get? fa=some o->o.data=.func (docDef d.name d.params d.body d.scope pm cd doc)->s₁.heap.CodeRec cd d.name->mg d.name=some (.ref fa) ->
   s₁.heap.get? a=some {cls:=.type "list",data:=.seq vs.toArray}->IntsAre vs ns->ns.length<=n->s₁.gens = #[] ->
   codeAny (model l.prog w) callerA (.call (.ref fa) ⟨[.ref a],[]⟩) (λ r s'=>r=.ok (.ret (.bool true))/\OldK s₁.heap s'.heap/\s'.os=s₁.os/\AllBare s'.gens) s₁) :
  WalkO q loose XP YP l.row.toRowW d [] (λ f vs=>PySem.call f vs):=by
 intro w s₀ s₁ mg mb G Y fa o pm cd doc dV kV ho hd hcd hD hmg hg args vals as hpre hlay hrd hwl hlo;obtain rfl:dV=.none:=Dflts.none hD hdf;obtain rfl:kV=.none:=Dflts.noKw hD;obtain⟨a,vs,ns,rfl,rfl,hobj,hints,hlen⟩:=aaQ hn hpre hwl;refine enter_call (codeAny_mono (call w s₀ s₁ mg mb fa o pm cd doc a vs ns G Y ho (fd_plain hd) hcd hmg hobj hints hlen hg) λ r s' hq=>?_);obtain⟨rfl,h2,h3,h4⟩:=hq;exact⟨.inl ⟨.bool true,.bool true,[],rfl,λ _=>rfl,.bool true,ab7 l _,λ _=>⟨List.Pairwise.nil,λ _ hm=>(nomatch hm)⟩⟩,h2,h3,h4⟩
section
variable {prog:Program}{w:World}{A:Around}{E:VP}{s:Shared}{K:Frag}
end
end Att
namespace L2
theorem ue:∀ {vs:List Value} {ns:List Int},IntsAre vs ns->Vals (ns.map V.int) vs
 | _,_,.nil=>.nil
 | _,_,.cons n t h=>.cons ⟨t,rfl⟩ (ue h)
def akb(H:Hp):Prop:=∀ b,H b=none\/∃ o xs,H b=some (.frz o (.lst xs))
theorem acS{P:Program}{w:World}{K:FG}{mg mb:Str->Option Value}{CX:CXT}{k:Nat}{fa a:Addr}{fd:FuncData}{x:Str}{sp:Sp}{s₁:Shared}{vs:List Value}{ns:List Int}
  (KX:K.In s₁.heap)(hns:s₁.heap.Ns mainGlobals mg)(hb:s₁.heap.Ns builtinsNs mb)(hbb:∀ x:Str,x ≠ "__name__" -> mb x=bootBuiltins x)(hlim:s₁.heap.NoLimit)(hbm:BM mg s₁.heap)(hg:s₁.gens = #[])
  (ha:s₁.heap.get? a=some {cls:=.type "list",data:=.seq vs.toArray})(hi:IntsAre vs ns)(hl:ns.length<=sizeLine)(hr:eO k callerA)
  (F:∀ base:Heap,K.In base->base.Ns mainGlobals mg->bK P w K mg base CX k fa fd [x] sp)(hbind:∀ (s:Shared) (u:Value),BindsTo s fd ⟨[u],[]⟩ [(x,u)])
  (hsp:∀ H:Hp,akb H->SqL K H a (ns.map V.int)->sp [.ref a] H (λ v _=>v=.bl true) λ _ _ _=>False)
  (hCX:∀ H e s',CX [] H s₁ (λ _ _ _=>False) e s'->False) :
  codeAny (model P w) callerA (.call (.ref fa) ⟨[.ref a],[]⟩) (λ r s'=>r=.ok (.ret (.bool true))/\OldK s₁.heap s'.heap/\s'.os=s₁.os/\AllBare s'.gens) s₁:=by
 have rv:=ue hi;have lenV:=hi.length;have core:∀ H:Hp,akb H->SqL K H a (ns.map V.int)->HOk P w H s₁.heap->(∀ b,H b≠none->b=a)->(H a≠none->K.lookup a=none) ->
   codeAny (model P w) callerA (.call (.ref fa) ⟨[.ref a],[]⟩) (λ r s'=>r=.ok (.ret (.bool true))/\OldK s₁.heap s'.heap/\s'.os=s₁.os/\AllBare s'.gens) s₁:=by
  intro H hO hS hok hA hK;have base_of:∀ {b:Addr} {o:Obj},s₁.heap.get? b=some o->H b=none->(aeg s₁.heap H).get? b=some o:=λ e n=>ade e n;have noA:∀ {b:Addr} {o:Obj} {es:Array DictEntry} {ep:Nat},s₁.heap.get? b=some o->o.data=.dict es ep->H b=none:=λ {b o es ep} e d=>by
   cases q:H b with
   | none=>rfl
   | some u =>
    have e':b=a:=hA b (by rw[q];simp);subst e';rw[ha] at e;cases e;have d':Data.seq vs.toArray _=Data.dict es ep:=d;cases d'
  have nsK:∀ {b:Addr} {m:Str->Option Value},s₁.heap.Ns b m->(aeg s₁.heap H).Ns b m:=λ {b m} ⟨o,es,ep,e,d,r⟩=>⟨o,es,ep,base_of e (noA e d),d,r⟩;have hKb:K.In (aeg s₁.heap H):=λ b o e=>base_of (KX b o e) (by
   cases q:H b with
   | none=>rfl
   | some u =>
    have e':b=a:=hA b (by rw[q];simp);subst e';rw[hK (by rw[q];simp)] at e;cases e)
  have hM:Mod K mg (aeg s₁.heap H):=⟨hKb,nsK hns,⟨mb,nsK hb,hbb⟩,let ⟨mc,h1,h2⟩:=hlim; ⟨mc,nsK h1,h2⟩,let ⟨⟨b,o,h1,h2,h3,h4,h5,h6⟩,mm,hmm⟩:=hbm; ⟨⟨b,o,h1,h2,base_of h3 (by cases q:H b with | none=>rfl | some u=>(have e':b=a:=hA b (by rw[q];simp);subst e';rw[ha] at h3;cases h3;cases h6)),h4,h5,h6⟩,mm,nsK hmm⟩⟩;have e0:adp P w K mg (aeg s₁.heap H) callerA [] s₁ H:=⟨rfl,hM,λ b o e=>agE e,Nat.le_of_eq (zT _ _),trivial,λ b hb=>absurd (show b∈([]:List Addr) from hb) (by simp),hok,.of_eq hg⟩;refine codeAny_mono ((F _ hKb (nsK hns)).run callerA [] s₁ H ⟨[.ref a],[]⟩ [.ref a] [.ref a] _ _ hr e0 (hbind s₁ (.ref a)) (.cons rfl .nil) (hsp H hO hS)) λ r s' h=>?_;cases r with
  | error e=>exact(hCX H e s' h).elim
  | ok fl =>
   cases fl with
   | next=>exact False.elim h
   | brk=>exact False.elim h
   | cont=>exact False.elim h
   | ret u =>
    obtain⟨v,H',os,bare,un,hok',r',q⟩:=h;have q':v=.bl true:=q;subst q';obtain rfl:u=Value.bool true:=r';refine⟨rfl,OldK.of_keep λ b o e=>?_,os,bare⟩;cases q:H b with
    | none=>exact un.keep b o e q (by intro z;exact absurd (show b∈([]:List Addr) from z) (by simp)) (by simp)
    | some u =>
     rcases hO b with z | ⟨ob,xs,z⟩
     ·rw[q] at z;cases z
     ·have z2:=un.frzs b ob _ z;obtain⟨e1,_⟩:=hok b _ z;obtain⟨e2,_⟩:=hok' b _ z2;rw[e] at e1;cases e1;exact e2
 cases hk:K.lookup a with
 | some o =>
  have e:=KX a o hk;rw[ha] at e;cases e;refine core (λ _=>none) (λ _=>.inl rfl) (.inr ⟨_,vs.toArray,_,hk,rfl,rfl,rfl,by rw[List.size_toArray,lenV];exact hl,by simpa using rv⟩) (λ b u z=>by have z':(none:Option HO)=some u:=z;cases z') (λ b z=>absurd rfl z) λ z=>absurd rfl z
 | none =>
  refine core (λ b=>if b=a then some (.frz {cls:=.type "list",data:=.seq vs.toArray} (.lst (ns.map V.int))) else none) (λ b=>?_) (.inl (.inr ⟨{cls:=.type "list",data:=.seq vs.toArray},if_pos rfl⟩)) (λ b u z=>?_) (λ b z=>?_) λ _=>hk
  ·by_cases hb:b=a
   ·exact .inr ⟨_,_,if_pos hb⟩
   ·exact .inl (if_neg hb)
  ·by_cases hb:b=a
   ·have z':=(if_pos hb).symm.trans z;cases z';subst hb;exact⟨ha,by rw[lm];exact hl,vs,_,rv,ha⟩
   ·have z':=(if_neg hb).symm.trans z;cases z'
  ·by_cases hb:b=a
   ·exact hb
   ·exact absurd (if_neg hb) z
theorem agH{l:W.OpenLaw}{n k:Nat}{q:Program}{loose:List Str}{XP:(Str->Option Value)->Heap->Prop}{YP:World->Heap->Prop}{d:DefRec}{K:Params->FG}{CX:World->CXT}{sp:World->Sp}{x:Str}
  (hq:importsNone q=true)(hn:l.most=some n)(hn2:n<=sizeLine)(hdf:d.params.defaults=[])(hr:eO k callerA)
  (hY:∀ (w:World) (h:Heap),YP w h->(K w.params).In h)
  (F:∀ (w:World) (mg:Str->Option Value) (fa:Addr) (h:Heap),(K w.params).In h->h.Ns mainGlobals mg->mg d.name=some (.ref fa) ->
   ∃ fd:FuncData,(∀ (s:Shared) (u:Value),BindsTo s fd ⟨[u],[]⟩ [(x,u)]) /\
    ∀ base:Heap,(K w.params).In base->base.Ns mainGlobals mg->bK l.prog w (K w.params) mg base (CX w) k fa fd [x] (sp w))
  (hsp:∀ (w:World) (H:Hp) (a:Addr) (ns:List Int),ns.length<=n->akb H->SqL (K w.params) H a (ns.map V.int)->sp w [.ref a] H (λ v _=>v=.bl true) λ _ _ _=>False)
  (hCX:∀ (w:World) (H:Hp) (s:Shared) (e:Value) (s':Shared),CX w [] H s (λ _ _ _=>False) e s'->False) :
  W.WalkO q loose XP YP l.row.toRowW d [] (λ f vs=>PySem.call f vs):=by
 refine Att.wt hn hdf λ w s₀ s₁ mg mb fa o pm cd doc a vs ns G Y ho hd hcd hmg hobj hints hlen hg=>?_;have KX:=hY w _ Y;obtain⟨fd,hb,hF⟩:=F w mg fa _ KX G.T.g hmg;exact acS KX G.T.g G.T.b G.T.builtins G.T.nolimit (let ⟨bm,ob,b1,b2,b3,b4,b5,b6⟩:=G.T.bmain;let ⟨mm,hmm,_⟩:=(G.T.seer hq).mods; ⟨⟨bm,ob,b1,b2,b3,b4,b5,b6⟩,mm,hmm⟩) hg hobj hints (Nat.le_trans hlen hn2) hr hF hb (λ H hO hS=>hsp w H a ns hlen hO hS) λ H e s'=>hCX w H s₁ e s'
def inClass(s:Stmt)(j:Nat):Stmt:=match s with
 | .ClassDef _ _ _ body _ _ _ _ _ _ _=>body.getD j (.Pass ⟨0,0,0,0⟩)
 | _=>.Pass ⟨0,0,0,0⟩
def bh(s:Stmt):Arguments:=match s with
 | .FunctionDef _ a _ _ _ _ _ _ _ _=>a
 | _=>{posonlyargs:=[],args:=[],vararg:=none,kwonlyargs:=[],kw_defaults:=[],kwarg:=none,defaults:=[]}
def aY(s:Stmt):List Stmt:=match s with
 | .FunctionDef _ _ b _ _ _ _ _ _ _=>b
 | _=>[]
def ak(s:Stmt):Scope:=match s with
 | .FunctionDef _ _ _ _ _ _ sc _ _ _=>sc
 | _=>{kind:=.function,names:=[],isGenerator:=false,isCoroutine:=false}
abbrev CX0:CXT:=λ _ _ _ _ _ _=>False
abbrev E0:XK:=λ _ _ _=>False
theorem aa6:Passes CX0 X E0:=λ _ _ _ _ _ _ _ h=>h.elim
structure Fun(K:FG)(x qual:Str)(st:Stmt)(f:Addr)(fd:FuncData):Prop where
 ex:∃ (oc:Value) (od:Option Addr) (kV doc pm:Value) (an:Option Addr) (cdv ct:Value) (osl:Array (Option Value)),
  fd=W.fnOf x qual (bh st) (aY st) (ak st) .none kV doc pm an cdv ct/\K.lookup f=some ⟨oc,od,.func fd,osl⟩/\W.codeIn K cdv qual=true
 kp:W.keepIn K (.ref f)=true
section
variable {P:Program}{w:World}{K:FG}{mg:Str->Option Value}{base:Heap}
theorem Fun.ok{x qual:Str}{st:Stmt}{N ps:List Str}{k:Nat}{sp:Sp}(F:Fun K x qual st f fd)(S:aL N ps (ak st))(len:∀ vs H Q E,sp vs H Q E->vs.length=ps.length)
  (hbody:∀ (cdv:Value) (A:Around) (outer:List Env) (s:Shared) (H:Hp) (vs:List V) (Q:VK) (E:XK),eO k (A.deeper (envOfC qual (ak st) s.heap.objs.size f cdv))->sp vs H Q E ->
   ∃ t,PSs (vD CX0 P w K mg base N qual (ak st) f cdv A outer s H E).nox (aY st) t/\t {nx:=λ _ H'=>Q .non H',rt:=Q} (start N vs) H):bK P w K mg base CX0 (k+1) f fd ps sp:=by
 obtain⟨oc,od,kV,doc,pm,an,cdv,ct,osl,rfl,lk,hcd⟩:=F.ex;refine ajA lk hcd S len λ A outer s H vs Q E hr hsp=>?_;obtain⟨t,h,q⟩:=hbody cdv A outer s H vs Q E hr hsp;exact⟨t,h.nox,q⟩
theorem Fun.binds{x qual:Str}{st:Stmt}{ps:List Str}(F:Fun K x qual st f fd)
  (h:∀ (kV doc pm:Value) (an:Option Addr) (cdv ct:Value) (us:List Value),us.length=ps.length->bindArgs (W.fnOf x qual (bh st) (aY st) (ak st) .none kV doc pm an cdv ct) ⟨us,[]⟩=pure (ps.zip us)):Binds K fd ps []:=by
 obtain⟨oc,od,kV,doc,pm,an,cdv,ct,osl,rfl,lk,hcd⟩:=F.ex;exact .all (h kV doc pm an cdv ct)
theorem sR{x qual:Str}{st:Stmt}{oc:Value}{od an:Option Addr}{osl:Array (Option Value)}{kV doc pm cdv ct:Value}(l:K.lookup f=some ⟨oc,od,.func (W.fnOf x qual (bh st) (aY st) (ak st) .none kV doc pm an cdv ct),osl⟩)
  (c:W.codeIn K cdv qual=true)(k:W.keepIn K (.ref f)=true):Fun K x qual st f (W.fnOf x qual (bh st) (aY st) (ak st) .none kV doc pm an cdv ct):=⟨⟨oc,od,kV,doc,pm,an,cdv,ct,osl,rfl,l,c⟩,k⟩
end
theorem aZ(hr:eO k A):A.units+1<cLine:=Nat.lt_of_le_of_lt (Nat.add_le_add_left (by decide:1<=64) _) hr.units
theorem fh{A B:Prop}(h:B):if false=true then A else B:=by rw[if_neg ft0];exact h
theorem si{A B:Prop}(h:A):if true=true then A else B:=by rw[if_pos rfl];exact h
section
variable {κ:Type}[DecidableEq κ]
def nO(kvs:List (κ×V))(k:κ):Option V:=(kvs.find? λ kv=>decide (kv.1=k)).map (·.2)
def putK(kvs:List (κ×V))(k:κ)(v:V):List (κ×V):=
 if (kvs.any λ kv=>decide (kv.1=k))=true then kvs.map (λ kv=>if kv.1=k then (kv.1,v) else kv) else kvs++[(k,v)]
def tG(kvs:List (κ×V))(k:κ):List (κ×V):=kvs.filter λ kv=>decide (kv.1≠k)
theorem i8{r:List (κ×V)}{k:κ}(e:p.1=k):nO (p::r) k=some p.2:=by simp[nO,List.find?_cons,e]
theorem i7{r:List (κ×V)}{k:κ}(e:¬ p.1=k):nO (p::r) k=nO r k:=by simp[nO,List.find?_cons,e]
theorem my(k:κ):∀ kvs:List (κ×V),(kvs.any λ kv=>decide (kv.1=k))=(nO kvs k).isSome
 | []=>rfl
 | p::r=>by
  rw[List.any_cons]
  by_cases e:p.1=k
  ·simp only[i8 e,decide_eq_true e,Bool.true_or,Option.isSome_some]
  ·rw[i7 e,decide_eq_false e,Bool.false_or];exact my k r
theorem jy(kvs:List (κ×V))(k:κ)(v:V):(putK kvs k v).length<=kvs.length+1:=by
 unfold putK
 split
 ·rw[lm];omega
 ·rw[List.length_append,List.length_cons,List.length_nil];omega
theorem acA{kvs:List (κ×V)}{k:κ}(v:V)(h:nO kvs k=none):putK kvs k v=kvs++[(k,v)]:=by
 unfold putK;rw[my,h];exact if_neg (by decide)
theorem pA.fW(r:pA o u):o.isSome=u.isSome:=by
 cases o with
 | none=>cases u with
  | none=>rfl
  | some _=>exact(show False from r).elim
 | some _=>cases u with
  | none=>exact(show False from r).elim
  | some _=>rfl
theorem pA.getD(r:pA o u)(rd:RelV d d'):RelV (o.getD d) (u.getD d'):=by
 cases o with
 | none=>cases u with
  | none=>exact rd
  | some _=>exact(show False from r).elim
 | some _=>cases u with
  | none=>exact(show False from r).elim
  | some _=>exact r
theorem KV.val(r:KV kvs vs)(k:κ):pA (nO kvs k) (valueAt vs k):=by
 unfold KV at r
 induction r with
 | nil=>exact True.intro
 | @cons p q ps qs h t ih =>
  obtain⟨h1,h2⟩:=h
  by_cases e:p.1=k
  ·have e':q.1=k:=h1.symm.trans e;have b:valueAt (q::qs) k=some q.2:=by simp[valueAt,List.find?_cons,e']
   rw[i8 e,b];exact h2
  ·have e':¬ q.1=k:=λ z=>e (h1.trans z);have b:valueAt (q::qs) k=valueAt qs k:=by simp[valueAt,List.find?_cons,e']
   rw[i7 e,b];exact ih
theorem KV.any(r:KV kvs vs)(k:κ):(kvs.any λ kv=>decide (kv.1=k))=vs.any λ kv=>decide (kv.1=k):=by
 unfold KV at r
 induction r with
 | nil=>rfl
 | cons h t ih=>rw[List.any_cons,List.any_cons,ih,h.1]
theorem KV.aku(r:KV kvs vs)(k:κ)(ry:RelV y u) :
  KV (kvs.map λ kv=>if kv.1=k then (kv.1,y) else kv) (vs.map λ kv=>if kv.1=k then (kv.1,u) else kv):=by
 unfold KV at r ⊢
 induction r with
 | nil=>exact .nil
 | @cons p q ps qs h t ih =>
  rw[List.map_cons,List.map_cons];refine .cons ?_ ih;obtain⟨h1,h2⟩:=h
  by_cases e:p.1=k
  ·rw[if_pos e,if_pos (h1.symm.trans e)];exact⟨h1,ry⟩
  ·rw[if_neg e,if_neg (λ z=>e (h1.trans z))];exact⟨h1,h2⟩
theorem KV.put(r:KV kvs vs)(k:κ)(ry:RelV y u):KV (putK kvs k y) (stored vs k u):=by
 unfold putK stored;rw[r.any k]
 by_cases e:(vs.any λ kv=>decide (kv.1=k))=true
 ·rw[if_pos e,if_pos e];exact r.aku k ry
 ·rw[if_neg e,if_neg e];exact Paired.snoc r ⟨rfl,ry⟩
theorem KV.drop(r:KV kvs vs)(k:κ):KV (tG kvs k) (without vs k):=by
 unfold KV at r ⊢;unfold tG without
 induction r with
 | nil=>exact .nil
 | @cons p q ps qs h t ih =>
  obtain⟨h1,h2⟩:=h;rw[List.filter_cons,List.filter_cons]
  by_cases e:p.1=k
  ·have a:¬ decide (p.1≠k)=true:=by simp[e]
   have b:¬ decide (q.1≠k)=true:=by simp[h1.symm.trans e]
   rw[if_neg a,if_neg b];exact ih
  ·have e':¬ q.1=k:=λ z=>e (h1.trans z);have a:decide (p.1≠k)=true:=by simp[e]
   have b:decide (q.1≠k)=true:=by simp[e']
   rw[if_pos a,if_pos b];exact .cons ⟨h1,h2⟩ ih
theorem KV.length(r:KV kvs vs):kvs.length=vs.length:=Paired.length r
theorem adl(kvs:List (κ×V))(k:κ):(tG kvs k).length<=kvs.length:=List.length_filter_le _ _
end
theorem nU(r:RelV (kV k) u):(bt P w).is k u=true:=by
 cases k with
 | inl i=>obtain⟨t,e⟩:=(show ∃ t,u=Value.int i t from r);subst e;exact wO P w i t
 | inr x=>obtain⟨t,e⟩:=(show ∃ t,u=Value.str x t from r);subst e;exact xk P w x t
theorem mV:∀ {ks:List Key} {us:List Value},Vals (ks.map kV) us->ItemsAre (bt P w) ks us
 | [],_,r=>by rw[List.map_nil] at r;cases r;exact .nil
 | k::ks,_,r=>by
  rw[List.map_cons] at r;cases r with
  | cons h t=>exact .cons (nU h) (mV t)
abbrev KT(H:Hp):List (List Key×V)->List (List Key×Addr×Value)->Prop:=Paired λ p q=>p.1=q.1/\H q.2.1=some (.tup (p.1.map kV))/\RelV p.2 q.2.2
theorem KT.val(r:KT H kvs xs)(k:List Key):pA (nO kvs k) ((atKey xs k).map (·.2)):=by
 induction r with
 | nil=>exact True.intro
 | @cons p q ps qs h t ih =>
  obtain⟨h1,_,h2⟩:=h
  by_cases e:p.1=k
  ·have e':q.1=k:=h1.symm.trans e;have b:atKey (q::qs) k=some q.2:=by simp[atKey,List.find?_cons,e']
   rw[i8 e,b];exact h2
  ·have e':¬ q.1=k:=λ z=>e (h1.trans z);have b:atKey (q::qs) k=atKey qs k:=by simp[atKey,List.find?_cons,e']
   rw[i7 e,b];exact ih
theorem KT.aku(r:KT H kvs xs)(k:List Key)(ry:RelV y u) :
  KT H (kvs.map λ kv=>if kv.1=k then (kv.1,y) else kv) (xs.map (putAt k u)):=by
 induction r with
 | nil=>exact .nil
 | @cons p q ps qs h t ih =>
  rw[List.map_cons,List.map_cons];refine .cons ?_ ih;obtain⟨h1,h2,h3⟩:=h;unfold putAt
  by_cases e:p.1=k
  ·rw[if_pos e,if_pos (h1.symm.trans e)];exact⟨h1,h2,ry⟩
  ·rw[if_neg e,if_neg (λ z=>e (h1.trans z))];exact⟨h1,h2,h3⟩
theorem KT.put(r:KT H kvs xs)(k:List Key)(hb:H b=some (.tup (k.map kV)))(ry:RelV y u) :
  KT H (putK kvs k y) (storedH xs k b u):=by
 have e:(kvs.any λ kv=>decide (kv.1=k))=(atKey xs k).isSome:=by rw[my,(r.val k).fW,Option.isSome_map]
 unfold putK storedH;rw[e]
 by_cases q:(atKey xs k).isSome=true
 ·rw[if_pos q,if_pos q];exact r.aku k ry
 ·rw[if_neg q,if_neg q];exact Paired.snoc r ⟨rfl,hb,ry⟩
theorem KT.keeps(r:KT H kvs xs)(ht:∀ b ys,H b=some (.tup ys)->H' b=some (.tup ys)):KT H' kvs xs:=
 Paired.lV r λ _ _ z=>⟨z.1,ht _ _ z.2.1,z.2.2⟩
theorem aje(ok:HOk P w H h)(e:Rd H a u):cZ P w H h a u:=e.ok ok
theorem yF(ok:HOk P w H h)(e:Rd H a (.dK kvs)):kvs.length<=sizeLine/\(a==sysModules)=false/\∃ vs,KV kvs vs/\h.DictOf (bt P w) a vs:=
 show cZ P w H h a (.dK kvs) from aje ok e
theorem adE(ok:HOk P w H h)(e:H a=some (.dK kvs)):kvs.length<=sizeLine/\(a==sysModules)=false/\∃ vs,KV kvs vs/\h.DictOf (bt P w) a vs:=yF ok (.inl e)
theorem aeB(ok:HOk P w H h)(e:H a=some (.tup (ks.map kV))):(tupleKind (bt P w)).is h ks a:=by obtain⟨_,its,r,o,h1,h2,_,n,h3⟩:=(show cZ P w H h a (.tup (ks.map kV)) from ok a _ e);exact⟨o,its.toArray,n,h1,h2,h3,by simpa using mV r⟩
theorem afe(ok:HOk P w H h)(e:Rd H a (.dT kvs)):kvs.length<=sizeLine/\(a==sysModules)=false /\
  ∃ xs,KT H kvs xs/\h.DictOfH (tupleKind (bt P w)) a xs:=by
 obtain⟨z,y,xs,r,o,es,ep,h1,h2,h3,h4,h5⟩:=(show cZ P w H h a (.dT kvs) from aje ok e);refine⟨z,y,xs,r,o,es,ep,h1,h2,h3,h4,λ x hx=>?_,h5⟩;have all:∀ {l:List (List Key×V)} {m:List (List Key×Addr×Value)},KT H l m->∀ x∈m,(tupleKind (bt P w)).is h x.1 x.2.1:=by
  intro l m q
  induction q with
  | nil=>intro x hx;exact nomatch hx
  | @cons p q ps qs hq t ih =>
   intro x hx;rcases List.mem_cons.mp hx with e | hx
   ·subst e;exact aeB ok (by rw[<- hq.1];exact hq.2.1)
   ·exact ih x hx
 exact all r x hx
theorem akY(ok:HOk P w H h)(e:H a=some (.dT kvs)):kvs.length<=sizeLine/\(a==sysModules)=false /\
  ∃ xs,KT H kvs xs/\h.DictOfH (tupleKind (bt P w)) a xs:=afe ok (.inl e)
def alV(H:Hp)(a:Addr)(y v:V)(H':Hp):Prop:=
 (∃ kvs k,H a=some (.dK kvs)/\y=kV k/\kvs.length<sizeLine/\H'=upd H a (.dK (putK kvs k v))) \/
 ∃ kvs k b,H a=some (.dT kvs)/\y=.ref b/\H b=some (.tup (k.map kV))/\kvs.length<sizeLine/\H'=upd H a (.dT (putK kvs k v))
section
variable {X:Cx}{pins:PN}{σ:St}{H:Hp}{s:Shared}{a:Addr}{y v:V}{u r:Value}{o:Option V}{A:Around}{E:VP}
theorem Inv.big(I:Inv X pins σ H s):sysModules<s.heap.objs.size:=by have h:mainGlobals<s.heap.objs.size:=(I.mod.glob.keeps I.bk).lt;exact Nat.lt_trans (by decide) h
theorem oA(I:Inv X pins σ H s)(mu:Mut (H a))(hs:Heap.SameBut a s.heap h')(he:∃ q,h'.get? a=some q)(new:cZ X.prog X.w (upd H a ob) h' a ob) :
  Inv X pins σ (upd H a ob) {s with heap:=h',toks:=t'}:=
 I.write (x:=a) (e:=a) mu (.inl rfl) (λ b q hb z=>(hs.2 b hb).trans z) he new
theorem uW(z:kvs.length<=sizeLine)(hd:(a==sysModules)=false)(rel:KV kvs vs)(dd:h'.DictOf (bt P w) a vs) :
  cZ P w H' h' a (.dK kvs):=⟨z,hd,vs,rel,dd⟩
theorem acq(hu:A.units+1<cLine)(I:Inv X pins σ H s)(g:alV H a y v H')(ry:RelV y u)(rv:RelV v r)(h:∀ s',Inv X pins σ H' s'->Q () s') :
  wpAny (model X.prog X.w) A (setItem (.ref a) u r) Q E s:=by
 rcases g with ⟨kvs,k,e,ey,l,eH⟩ | ⟨kvs,k,b,e,ey,eb,l,eH⟩
 ·subst ey eH;obtain⟨z,hd,vs,rel,dd⟩:=adE I.hok e;have hz:vs.length<=sizeLine:=by rw[<- rel.length];exact z
  have hl:(putK kvs k v).length<=sizeLine:=by have:=jy kvs k v;omega
  refine wpAny_setItem_pairs (hsz:=hz) (nU ry) dd λ h' dd' hs=>h _ ?_;have he:∃ q,h'.get? a=some q:=let ⟨q,_,_,hq,_⟩:=dd'; ⟨q,hq⟩;exact oA I (by rw[e];exact True.intro) hs he (uW hl hd (rel.put k rv) dd')
 ·subst ey eH;cases (show u=Value.ref b from ry);obtain⟨z,hd,xs,rel,dd⟩:=akY I.hok e;have hz:xs.length<=sizeLine:=by rw[<- Paired.length rel];exact z
  have hl:(putK kvs k v).length<=sizeLine:=by have:=jy kvs k v;omega
  refine wpAny_setItem_heap (hsz:=hz) (tupleKind_room_in1 hu) (aeB I.hok eb) dd λ h' dd' hs=>h _ ?_;obtain⟨q,es,ep,hq,h2,h3,h4,_,h5⟩:=dd';refine oA I (by rw[e];exact True.intro) hs ⟨q,hq⟩ ⟨hl,hd,_,(rel.put k eb rv).keeps λ c ys ec=>?_,q,es,ep,hq,h2,h3,h4,h5⟩;rw[aB (afJ ec e (λ z=>nomatch z))];exact ec
end
section
variable {X:Cx}{pins:PN}{σ:St}{H:Hp}{s:Shared}{a:Addr}{kvs:List (Key×V)}{k:Key}{u:Value}{A:Around}{E:VP}
theorem abb(I:Inv X pins σ H s)(e:H a=some (.dK kvs))(ry:RelV (kV k) u)(l:(nO kvs k).isSome=true)(h:∀ s',Inv X pins σ (upd H a (.dK (tG kvs k))) s'->Q () s') :
  wpAny (model X.prog X.w) A (delItem (.ref a) u) Q E s:=by
 obtain⟨z,hd,vs,rel,dd⟩:=adE I.hok e;refine wpAny_delItem_slot dd.typeIs (by decide) PySem.F.slot_dict_delitem
  (call_meetsIn PySem.F.slot_dict_delitem dd.typeIs PySem.F.entry_dict_delitem (PySem.F.args_dict_delitem_2 _ _) (meets_dict_delitem_pairs (bt X.prog X.w) a (nU ry)) ⟨vs,dd,by rw[<- rel.length];exact z,by rw[<- (rel.val k).fW];exact l,λ h' dd' hs=>h _ ?_⟩)
 have he:∃ q,h'.get? a=some q:=let ⟨q,_,_,hq,_⟩:=dd'; ⟨q,hq⟩;exact oA I (by rw[e];exact True.intro) hs he (uW (Nat.le_trans (adl kvs k) z) hd (rel.drop k) dd')
end
def ad4(i:Expr):Prop:=∀ ov iv,subscripted i false ov iv=operate [ov,iv] (getItem ov iv)
theorem w9{env:Env}{value slice:Expr}{T id:String}
  (hl:typeLookup (.type T) "__getitem__" = pure (some (.builtin id)))(hs:ad4 slice)
  (h:wpAny (model prog w) A (eval value env) (λ o s₁=>wpAny (model prog w) A (eval slice env) (λ i s₂=>s₂.TypeIs o T/\wpAny (model prog w) A (getItem o i) Q E s₂) E s₁) E s) :
  wpAny (model prog w) A (eval (.Subscript value slice pos) env) Q E s:=by
 refine Subscript_ (wpAny_mono h (λ o s₁ h₁=>wpAny_mono h₁ (λ i s₂ h₂=>?_) λ _ _ x=>x) λ _ _ x=>x);obtain⟨hT,h₂⟩:=h₂;unfold subscriptTail;refine wb0 ?_;rw[getitemInPython_of_ne hT.not_modules];refine wb0 (wpAny_specialOf hT hl ?_);have fin:wpAny (model prog w) A (subscripted slice false o i) (λ r s₃=>wpAny (model prog w) A (letTemporaryGo value o r >>= λ _=>pure r) Q E s₃) E s₂:=by rw[hs o i];exact wpAny_operating (wpAny_mono h₂ (λ r s₃ h₃=>wb0 (wpAny_letTemporaryGo (wp0 h₃))) λ _ _ x=>x)
 first
  | exact wp0 (wb0 fin)
  | exact wb0 (wp0 (wb0 fin))
  | exact wb0 fin
def ald(td ty tv:TE):TS:=λ D σ H=>tv σ H λ v H1=>td σ H1 λ x H2=>ty σ H2 λ y H3=>∃ a H4,x=.ref a/\alV H3 a y v H4/\D.nx σ H4
def akA(td ty:TE):TS:=λ D σ H=>td σ H λ x H1=>ty σ H1 λ y H2=>∃ a kvs k,x=.ref a/\H2 a=some (.dK kvs)/\y=kV k/\(nO kvs k).isSome=true/\D.nx σ (upd H2 a (.dK (tG kvs k)))
theorem agz(hu:X.A.units+1<cLine)(ho:PE X o td)(hi:PE X i ty)(hv:PE X value tv)(hs:swapsWith value (some (.Subscript o i pos')) pos.line X.env=pure false) :
  PS X (.Assign [.Subscript o i pos'] value pos) (ald td ty tv):=by
 intro pins s σ H D I h;refine wpAny_Assign_Subscript (thn (hv pins s σ H _ I h) λ r s1 ⟨v,H1,I1,rv,q1⟩=>thn (ho pins s1 σ H1 _ I1 q1) λ u s2 ⟨x,H2,I2,rx,q2⟩=>thn (hi pins s2 σ H2 _ I2 q2) λ iv s3 ⟨y,H3,I3,ry,a,H4,ex,g,q3⟩=>?_) hs;subst ex;obtain rfl:u=Value.ref a:=rx;exact acq hu I3 g ry rv λ s4 I4=>⟨σ,H4,I4,q3⟩
theorem agN(ho:PE X o td)(hi:PE X i ty):PS X (.Delete [.Subscript o i tpos] pos) (akA td ty):=by intro pins s σ H D I h;refine wpAny_Delete (wpAny_deleteEach_cons (wpAny_delete_Subscript (thn (ho pins s σ H _ I h) λ u s1 ⟨x,H1,I1,rx,q1⟩=>thn (hi pins s1 σ H1 _ I1 q1) λ iv s2 hq27=>?_)));obtain⟨y,H2,I2,ry,a,kvs,k,ex,e,ey,l,q2⟩:=hq27;subst ex ey;obtain rfl:u=Value.ref a:=rx;exact abb I2 e ry l λ s3 I3=>wpAny_deleteEach_nil ⟨σ,_,I3,q2⟩
theorem ya(h:Heap)(hb:sysModules<h.objs.size):cZ P w H (h.push {cls:=.type "dict",data:=.dict #[]}) h.objs.size (.dK []):=
 ⟨Nat.zero_le _,beq_eq_false_iff_ne.mpr (Ne.symm (Nat.ne_of_lt hb)),[],.nil,Heap.DictOf.new h⟩
def aja:TE:=λ _ H Q=>∀ p,H p=none->Q (.ref p) (upd H p (.dK []))
theorem adf:PE X (.Dict [] [] pos) aja:=λ pins s σ H Q I h =>
 wpAny_Dict_empty ⟨.ref s.heap.objs.size,_,I.laid (a:=s.heap.objs.size) (o:=.dK []) (t':=s.toks) (λ _ _ q=>Heap.get?_push_of_some _ q) (lr0 _) (ya s.heap I.big),rfl,h _ (I.hok.fresh (lr0 _))⟩
def xy:List (TE×TE)->St->Hp->(List (V×V)->Hp->Prop)->Prop
 | [],_,H,Q=>Q [] H
 | (tk,tv)::r,σ,H,Q=>tk σ H λ x H1=>tv σ H1 λ y H2=>xy r σ H2 λ ps H3=>Q ((x,y)::ps) H3
abbrev VV:List (V×V)->List (Value×Value)->Prop:=Paired λ p q=>RelV p.1 q.1/\RelV p.2 q.2
def PPs(X:Cx)(pos:Pos)(keys:List (Option Expr))(values:List Expr)(trs:List (TE×TE)):Prop:=
 ∀ (pins:PN) (s:Shared) (σ:St) (H:Hp) (Q:List (V×V)->Hp->Prop),Inv X pins σ H s->xy trs σ H Q ->
  wpAny (model X.prog X.w) X.A (evalPairs (pairTrees keys values X.env pos)) (λ vs s'=>∃ ps H',Inv X pins σ H' s'/\VV ps vs/\Q ps H') X.xe s
theorem afT:PPs X pos [] [] []:=λ pins s σ H Q I h=>pairTrees_nil_walk ⟨[],H,I,.nil,h⟩
theorem adu(hk:PE X k tk)(hv:PE X v tv)(hr:PPs X pos ks vs trs) :
  PPs X pos (some k::ks) (v::vs) ((tk,tv)::trs):=λ pins s σ H Q I h =>
 pairTrees_cons_walk (thn (hk pins s σ H _ I h) λ u s1 ⟨x,H1,I1,rx,q1⟩=>thn (hv pins s1 σ H1 _ I1 q1) λ w2 s2 ⟨y,H2,I2,ry,q2⟩ =>
  thn (hr pins s2 σ H2 _ I2 q2) λ ws s3 ⟨ps,H3,I3,rel,q3⟩=>⟨(x,y)::ps,H3,I3,.cons ⟨rx,ry⟩ rel,q3⟩)
def ig(kvs more:List (Key×V)):List (Key×V):=more.foldl (λ acc kv=>putK acc kv.1 kv.2) kvs
theorem KV.merge:∀ {more:List (Key×V)} {rs:List (Key×Value)} {kvs:List (Key×V)} {vs:List (Key×Value)},KV more rs->KV kvs vs->KV (ig kvs more) (merged vs rs):=by
 intro more rs kvs vs r;unfold KV at r
 induction r generalizing kvs vs with
 | nil=>intro q;exact q
 | @cons p q ps qs h t ih =>
  intro r0;have e:KV (putK kvs p.1 p.2) (stored vs q.1 q.2):=by have:=r0.put p.1 h.2;rw[<- h.1];exact this
  exact ih e
theorem g6:∀ (more kvs:List (Key×V)),(ig kvs more).length<=kvs.length+more.length
 | [],kvs=>by show kvs.length<=kvs.length+0;omega
 | p::r,kvs=>by have h1:=g6 r (putK kvs p.1 p.2);have h2:=jy kvs p.1 p.2;show(ig (putK kvs p.1 p.2) r).length<=_;rw[List.length_cons];omega
theorem qp:∀ {kvs:List (Key×V)} {ws:List (Value×Value)},VV (kvs.map λ kv=>(kV kv.1,kv.2)) ws->∃ rs,Carries (bt P w) ws rs/\KV kvs rs
 | [],_,r=>by rw[List.map_nil] at r;cases r;exact⟨[],True.intro,.nil⟩
 | p::kvs,_,r=>by
  rw[List.map_cons] at r;cases r with
  | @cons a b as bs h t =>
   obtain⟨rs,c,q⟩:=qp (P:=P) (w:=w) t;obtain⟨b1,b2⟩:=b;exact⟨(p.1,b2)::rs,⟨nU h.1,rfl,c⟩,.cons ⟨rfl,h.2⟩ q⟩
def ak7(trs:List (TE×TE)):TE:=λ σ H Q=>∀ p,H p=none->xy trs σ (upd H p (.dK [])) λ ps H2=>H2 p=some (.dK [])/\∃ kvs:List (Key×V),ps=kvs.map (λ kv=>(kV kv.1,kv.2))/\kvs.length<=15/\Q (.ref p) (upd H2 p (.dK (ig [] kvs)))
theorem abu(h:PPs X pos keys values trs)(hall:keys.all (·.isSome)=true)(hl:keys.length=values.length)(h0:keys≠[])
  (h15:keys.length<=15):PE X (.Dict keys values pos) (ak7 trs):=by
 intro pins s σ H Q I q;have hn:=I.hok.fresh (lr0 s.heap.objs.size);have I1:=I.laid (a:=s.heap.objs.size) (o:=.dK []) (h':=s.heap.push {cls:=.type "dict",data:=.dict #[]}) (t':=s.toks) (λ _ _ q=>Heap.get?_push_of_some _ q) (lr0 _) (ya s.heap I.big);refine wpAny_Dict_walk (knd:=bt X.prog X.w) hall hl h0 h15 (thn (h pins _ σ _ _ I1 (q _ hn)) λ ws s2 hq28=>?_);obtain⟨ps,H2,I2,rel,e,kvs,ep,lk,q2⟩:=hq28;subst ep;obtain⟨rs,c,rk⟩:=qp (P:=X.prog) (w:=X.w) rel;obtain⟨z,hd,vs0,r0,dd⟩:=adE I2.hok e;cases r0;refine⟨rs,c,dd,λ h' dd' hs=>⟨.ref s.heap.objs.size,_,?_,rfl,q2⟩⟩;have hz:(ig [] kvs).length<=sizeLine:=by have h1:=g6 kvs [];rw[List.length_nil] at h1;rw[sizeLine_eq];omega
 have he:∃ q,h'.get? s.heap.objs.size=some q:=let ⟨q,_,_,hq,_⟩:=dd'; ⟨q,hq⟩;exact oA I2 (by rw[e];exact True.intro) hs he (uW hz hd (rk.merge .nil) dd')
structure M1(X:Cx)(o:Expr)(m:Str)(apos:Pos)(e:Expr)(cpos:Pos):Prop where
 base:attributeBase o m X.env (eval o X.env)=eval o X.env
 few:((backTo cpos (starEach [e] X.env)).all (λ x=>!x.1)&&(backToKw cpos (keywordEach [] X.env)).all (λ x=>x.1.isSome)
  && decide (([e]:List Expr).length+([]:List Keyword).length+(if ([]:List Keyword).isEmpty then 0 else 1)<30))=true
 line:(apos.endLine==cpos.line)=true
 trees:backTo cpos (starEach [e] X.env)=[(false,eval e X.env)]
section
variable {X:Cx}{pins:PN}{σ:St}{H:Hp}{s:Shared}{a:Addr}{y d:V}{u r:Value}{o:Option V}{A:Around}{E:VP}
end
theorem adT(I:Inv X pins σ H s)(e:Rd H a (.dK kvs))(h:∀ p s',H p=none->Inv X pins σ (upd H p (.dK kvs)) s'->Q (.ref p) s'):wpAny (model X.prog X.w) A (call (.type "dict") [.ref a]) Q E s:=by obtain⟨z,hd,vs,rel,dd⟩:=yF I.hok e;refine kt_call_dict hd dd (by rw[<- rel.length];exact z) λ h' dd' hs=>?_;refine h _ _ (I.hok.fresh (lr0 _)) (I.laid (a:=s.heap.objs.size) (o:=.dK kvs) (t':=s.toks) (λ b q hq=>?_) (lr0 _) (uW z (beq_eq_false_iff_ne.mpr (Ne.symm (Nat.ne_of_lt I.big))) rel dd'));exact(hs.2 b (Nat.ne_of_lt (Heap.lt_size hq))).trans (Heap.get?_push_of_some _ hq)
section
variable {X:Cx}{pins:PN}{σ:St}{H:Hp}{s:Shared}{a:Addr}{y:V}{u:Value}{A:Around}{E:VP}
end
end L2
set_option maxHeartbeats 0
namespace L2
def Fz:HO->Prop
 | .lst _=>True
 | .dK _=>True
 | _=>False
theorem aio(e:H p=some u)(f:Fz u):Un fs ex H (upd H p (.frz o u)) h h where
 keep:=λ b ob q _ _ _=>q
 slot:=λ b ob q _ _ _=>⟨ob.slots,q⟩
 free:=λ b ob _ n _=>by rw[aB (Ne.symm (bI e n))];exact n
 there:=λ b ob q _=>⟨ob,q⟩
 tups:=λ b xs q=>by
  have:b≠p:=λ z=>by subst z;rw[e] at q;cases q;exact f
  rw[aB this];exact q
 frzs:=λ b ob v q=>by
  have:b≠p:=λ z=>by subst z;rw[e] at q;cases q;exact f
  rw[aB this];exact q
 tbls:=λ b ps q=>by
  have:b≠p:=λ z=>by subst z;rw[e] at q;cases q;exact f
  exact⟨#[],by rw[aB this,q];simp⟩
theorem cZ.aj4(f:Fz u)(x:cZ P w H h a u):cZ P w H' h a u:=by
 cases u with
 | lst xs=>exact x
 | dK kvs=>exact x
 | _=>exact f.elim
theorem cZ.obj(f:Fz u)(x:cZ P w H h a u):∃ o,h.get? a=some o:=by
 cases u with
 | lst xs=>obtain⟨_,_,_,_,e⟩:=x;exact⟨_,e⟩
 | dK kvs=>obtain⟨_,_,_,_,o,_,_,e,_⟩:=x;exact⟨o,e⟩
 | _=>exact f.elim
theorem Inv.freeze(I:Inv X pins σ H s)(e:H p=some u)(f:Fz u):∃ o,Inv X pins σ (upd H p (.frz o u)) s:=by
 obtain⟨o,ho⟩:=(I.hok p u e).obj f;refine⟨o,I.un (h':=s.heap) (t':=s.toks) (aio e f) λ b v q=>?_⟩
 by_cases hb:b=p
 ·subst hb;rw[aA] at q;cases q;exact⟨ho,(I.hok b u e).aj4 f⟩
 ·rw[aB hb] at q;refine(I.hok b v q).vB (λ _ _ _ q=>q) (λ c r=>?_) λ c xs r=>?_
  ·have:c≠p:=λ z=>by subst z;rw[e] at r;cases r;exact f
   rw[aB this];exact r
  ·have:c≠p:=λ z=>by subst z;rw[e] at r;cases r;exact f
   rw[aB this];exact r
def alN(t:TE):TE:=λ σ H Q=>t σ H λ v H1=>∃ p u,v=.ref p/\H1 p=some u/\Fz u/\∀ o,Q v (upd H1 p (.frz o u))
theorem ub(h:PE X e t):PE X e (alN t):=by intro pins s σ H Q I hq;refine thn (h pins s σ H _ I hq) λ v s1 hq29=>?_;obtain⟨x,H1,I1,r1,p,u,e1,e2,f,q⟩:=hq29;obtain⟨o,I2⟩:=I1.freeze e2 f;exact⟨x,_,I2,r1,q o⟩
theorem Inv.ajQ(I:Inv X pins σ H s)(e:s.heap.get? D=some {cls:=.type "list",data:=.seq us.toArray n})(hn:H D=none)(hv:Vals ys us)(hz:ys.length<=sizeLine)
  (h0:X.s₀.heap.objs.size<=D)(hL:D≠X.env.locals)(hc:∀ x c,X.env.cells.lookup x=some c->c≠D)(hp:∀ p∈X.pn++pins,p.1≠D):Inv X pins σ (upd H D (.lst ys)) s:=by
 have ne:∀ b u,H b=some u->b≠D:=λ b u q=>bI q hn;refine I.step (h':=s.heap) (g':=s.gens) (d':=s.drawn) (t':=s.toks) (ch:=[D]) (λ b hb=>?_) (λ b o _ _ _ q _=>q) (λ b o _ _ _ q _=>⟨o.slots,q⟩) (λ b o hb q n=>?_) (λ b o _ q=>⟨o,q⟩)
  (λ b xs q=>by rw[aB (ne b _ q)];exact q) (λ b o u q=>by rw[aB (ne b _ q)];exact q) (λ b ps q=>⟨#[],by rw[aB (ne b _ q),q];simp⟩) (λ m hm=>hm) (λ b u q=>?_) I.bare
 ·have e:b=D:=by simpa using hb
  subst e;exact⟨.inr h0,hL,hc,hp⟩
 ·rw[aB (λ z=>hb (by simp[z]))];exact n
 ·by_cases hb:b=D
  ·subst hb;rw[aA] at q;cases q;exact⟨hz,us,n,hv,e⟩
  ·rw[aB hb] at q;exact(I.hok b u q).vB (λ _ _ _ q=>q) (λ c r=>by rw[aB (ne c _ r)];exact r) λ c xs r=>by rw[aB (ne c _ r)];exact r
abbrev abP(ifs:List Expr)(env:Env):Sem Bool:=forIn ifs true λ c r=>if r=true then do let ok <- isTrue c env (eval c env);pure (ForInStep.yield ok) else pure (ForInStep.yield r)
theorem tj(I:Nat->Shared->Prop)
  (turn:∀ n s,I n s->wpAny (model prog w) A (pyNext it) (λ r s₁=>match r with
   | none=>R (.ok .next) s₁
   | some v=>wpAny (model prog w) A (letOwnedTupleGo target it v) (λ _ s₁'=>wpAny (model prog w) A (assign target env v) (λ _ s₂ =>
     wpAny (model prog w) A (abP ifs env) (λ ok s₃ =>
      if ok=true then wpAny (model prog w) A (eval elt env) (λ x s₄ =>
       wpAny (model prog w) A (call (.builtin "list.append") [acc,x]) (λ _ s₅=>∃ m,m<n/\I m s₅) (λ _ _=>False) s₄) (λ _ _=>False) s₃
      else ∃ m,m<n/\I m s₃) (λ _ _=>False) s₂) (λ _ _=>False) s₁') (λ _ _=>False) s₁) (λ _ _=>False) s)
  (n:Nat)(h:I n s) :
  codeAny (model prog w) A (.compLoop (.ListComp elt [⟨target,iter,ifs,0⟩] scope pos) 0 it acc env) R s:=by
 refine codeAny_loop rfl I (λ n s hI=>?_) n h;show wpAny _ A ((compTurn (.ListComp elt [⟨target,iter,ifs,0⟩] scope pos) 0 it acc env).onRaise (λ x=>do noteFrame x env;theTreesLotGoes x)) _ _ s;refine wpAny_noted ?_;rw[compTurn_list];refine wb0 (wpAny_standAt (wb0 (wpAny_mono (turn n s hI) (λ r s₁ h₁=>?_) λ _ _ h'=>h'.elim)));cases r with
 | none=>exact wp0 h₁
 | some v =>
  refine wb0 (wpAny_mono h₁ (λ _ s₁' h₁'=>?_) λ _ _ h'=>h'.elim);refine wb0 (wpAny_mono h₁' (λ _ s₂ h₂=>wb0 (wpAny_mono h₂ (λ ok s₃ h₃=>?_) λ _ _ h'=>h'.elim)) λ _ _ h'=>h'.elim);cases ok with
  | false=>exact wp0 ⟨rfl,h₃⟩
  | true =>
   exact wb0 (wb0 (wpAny_mono h₃ (λ x s₄ h₄=>wb0 (wpAny_mono h₄ (λ _ s₅ h₅=>wp0 (wp0 ⟨rfl,h₅⟩)) λ _ _ h'=>h'.elim)) λ _ _ h'=>h'.elim))
theorem ve(h:∀ x∈scope.names,x.2=.free->∃ c,env.cells.lookup x.1=some c) :
  ∃ cl,closureFor scope env=pure cl/\(∀ n c,cl.lookup n=some c->env.cells.lookup n=some c)/\(∀ n,(n,NameKind.free)∈scope.names->∃ c,cl.lookup n=some c):=by
 have key:∀ (l:List (Str×NameKind)) (cs:List (Str×Addr)),(∀ x∈l,x.2=.free->∃ c,env.cells.lookup x.1=some c)->(∀ n c,cs.lookup n=some c->env.cells.lookup n=some c) ->
   ∃ cl:List (Str×Addr),(forIn l cs λ x r=>match x with
    | (name,kind)=>if (kind==NameKind.free)=true then do let a <- cellOf env name;pure (ForInStep.yield ((name,a)::r)) else pure (ForInStep.yield r):Sem (List (Str×Addr)))=pure cl /\
    (∀ n c,cl.lookup n=some c->env.cells.lookup n=some c)/\(∀ n c,cs.lookup n=some c->∃ c,cl.lookup n=some c)/\(∀ n,(n,NameKind.free)∈l->∃ c,cl.lookup n=some c):=by
  intro l
  induction l with
  | nil=>intro cs _ hc;exact⟨cs,rfl,hc,λ n c e=>⟨c,e⟩,λ n hn=>nomatch hn⟩
  | cons x l ih =>
   intro cs hl hc;obtain⟨name,kind⟩:=x
   by_cases hk:kind=.free
   ·subst hk;obtain⟨c,e⟩:=hl (name,.free) List.mem_cons_self rfl;obtain⟨cl,h1,h2,h3,h4⟩:=ih ((name,c)::cs) (λ y hy=>hl y (List.mem_cons_of_mem _ hy)) (λ n d q=>by
     rw[List.lookup_cons] at q;cases hb:n==name with
     | true =>
      rw[hb] at q;cases q;rw[eq_of_beq hb];exact e
     | false =>
      rw[hb] at q;exact hc n d q)
    refine⟨cl,?_,h2,λ n d q=>?_,λ n hn=>?_⟩
    ·rw[List.forIn_cons];simp only[beq_self_eq_true,if_true,cellOf,e,pure_bind];exact h1
    ·cases hb:n==name with
     | true=>exact h3 n c (by rw[List.lookup_cons,hb])
     | false=>exact h3 n d (by rw[List.lookup_cons,hb];exact q)
    ·rcases List.mem_cons.mp hn with z | z
     ·cases z;exact h3 name c (by rw[List.lookup_cons];simp)
     ·exact h4 n z
   ·obtain⟨cl,h1,h2,h3,h4⟩:=ih cs (λ y hy=>hl y (List.mem_cons_of_mem _ hy)) hc;refine⟨cl,?_,h2,h3,λ n hn=>?_⟩
    ·rw[List.forIn_cons];have:(kind==NameKind.free)=false:=by simpa using hk
     simp only[this,Bool.false_eq_true,if_false,pure_bind];exact h1
    ·rcases List.mem_cons.mp hn with z | z
     ·cases z;exact absurd rfl hk
     ·exact h4 n z
 obtain⟨cl,h1,h2,_,h4⟩:=key scope.names [] h (λ n c e=>by simp at e);refine⟨cl,?_,h2,h4⟩;unfold closureFor;simp only[bind_pure];exact h1
theorem lO{sc:Scope}{env:Env}{x:Str}:∀ {names:List (Str×NameKind)},(names.map λ(n,k)=>if (k==NameKind.free&&env.scope.kind==.function&&env.kindOf n==some .cell) then (n,NameKind.cell) else (n,k)).lookup x=some .cell \/
  (names.map λ(n,k)=>if (k==NameKind.free&&env.scope.kind==.function&&env.kindOf n==some .cell) then (n,NameKind.cell) else (n,k)).lookup x=some .free->(∀ y∈names,y.2 ≠ .cell)->(x,NameKind.free)∈names
 | [],h,_=>by simp at h
 | (n,k)::r,h,hc=>by
  have ih:=@lO sc env x r
  by_cases hk:(k==NameKind.free&&env.scope.kind==.function&&env.kindOf n==some .cell)=true
  ·simp only[List.map_cons,if_pos hk,List.lookup_cons] at h;cases hx:x==n with
   | true =>
    have e:=eq_of_beq hx;subst e;simp only[ae00] at hk;have:=eq_of_beq hk.1.1;subst this;exact List.mem_cons_self
   | false =>
    rw[hx] at h;exact List.mem_cons_of_mem _ (ih h λ y hy=>hc y (List.mem_cons_of_mem _ hy))
  ·simp only[List.map_cons,if_neg hk,List.lookup_cons] at h;cases hx:x==n with
   | true =>
    rw[hx] at h;have e:=eq_of_beq hx;subst e;rcases h with h | h
    ·cases h;exact absurd rfl (hc (x,.cell) List.mem_cons_self)
    ·cases h;exact List.mem_cons_self
   | false =>
    rw[hx] at h;exact List.mem_cons_of_mem _ (ih h λ y hy=>hc y (List.mem_cons_of_mem _ hy))
theorem fM{env:Env}{x:Str}:∀ {names:List (Str×NameKind)},names.lookup x=some .free ->
  (names.map λ(n,k)=>if (k==NameKind.free&&env.scope.kind==.function&&env.kindOf n==some .cell) then (n,NameKind.cell) else (n,k)).lookup x=some .cell \/
  (names.map λ(n,k)=>if (k==NameKind.free&&env.scope.kind==.function&&env.kindOf n==some .cell) then (n,NameKind.cell) else (n,k)).lookup x=some .free
 | [],h=>by simp at h
 | (n,k)::r,h=>by
  have ih:=@fM env x r
  by_cases hk:(k==NameKind.free&&env.scope.kind==.function&&env.kindOf n==some .cell)=true
  ·simp only[List.map_cons,if_pos hk,List.lookup_cons];cases hx:x==n with
   | true=>exact .inl rfl
   | false=>rw[List.lookup_cons,hx] at h;exact ih h
  ·simp only[List.map_cons,if_neg hk,List.lookup_cons];cases hx:x==n with
   | true=>rw[List.lookup_cons,hx] at h;exact .inr h
   | false=>rw[List.lookup_cons,hx] at h;exact ih h
def blk(X:Cx)(sc:Scope)(N':List Str)(cl:List (Str×Addr))(C:Addr)(s:Shared)(H:Hp)(ex:List Addr)(pins:PN):Cx:=
 {X with N:=N',s₀:=s,H₀:=H,env:=compEnvC sc cl C X.env,outer:=X.stack,ex:=ex,fn:=λ _=>false,pn:=X.pn++pins,xe:=λ _ _=>False}
def lcN(X:Cx)(own:List Str)(fr:List Nat):List Str:=own++fr.map λ j=>X.N.getD j Str.empty
def lcS(k:Nat)(fr:List Nat)(σ:St):St:=List.replicate k none++fr.map λ j=>(σ[j]?).getD none
def akf(N:List Str)(sc:Scope)(fr:List Nat):Bool:=fr.all λ j=>match N[j]? with
 | some x=>sc.names.lookup x==some .free
 | none=>false
structure yK(X:Cx)(sc:Scope)(own:List Str)(fr:List Nat):Prop where
 kind:sc.kind=.function
 cell:∀ y∈sc.names,y.2 ≠ .cell
 free:∀ y∈sc.names,y.2=.free->(X.env.kindOf y.1=some .cell\/X.env.kindOf y.1=some .free)
 names:∀ y∈sc.names,y.2=.local->sc.names.lookup y.1=some .local
 fr:akf X.N sc fr=true
def PTs(X:Cx)(ifs:List Expr)(t:TT):Prop:=
 ∀ (pins:PN) (s:Shared) (σ:St) (H:Hp) (Q:Bool->Hp->Prop),Inv X pins σ H s->t σ H Q->wpAny (model X.prog X.w) X.A (abP ifs X.env) (TP X pins σ Q) X.xe s
def amA:TT:=λ _ H Q=>Q true H
theorem agb:PTs X [] amA:=λ _ _ _ H _ I h=>wpAny_tests_nil ⟨H,I,h⟩
theorem ahd(h:PT X c t):PTs X [c] t:=λ pins s σ H Q I q=>wpAny_tests_one (h pins s σ H Q I q)
theorem acD(h:akf N sc fr=true)(hj:j∈fr):∃ x,N[j]? =some x/\sc.names.lookup x=some .free:=by
 have q:=List.all_eq_true.mp h j hj;cases e:N[j]? with
 | none=>simp[e] at q
 | some x =>
  simp only[e] at q;exact⟨x,rfl,eq_of_beq q⟩
theorem ajy(L:yK X sc own fr)(I:Inv X pins σ H s)(hf:∀ b∈fp,yO X pins H b)(hb:∀ b∈fp,b<s.heap.objs.size)(hC:s.heap.objs.size<=C)
  (c1:∀ n c,cl.lookup n=some c->X.env.cells.lookup n=some c)(c2:∀ n,(n,NameKind.free)∈sc.names->∃ c,cl.lookup n=some c):(blk X sc (lcN X own fr) cl C s H fp pins).Ok where
 mod:=I.ok.mod
 kind:=L.kind
 glob:=I.ok.glob
 blt:=I.ok.blt
 above:=hC
 inj:=λ x y c a b=>I.ok.inj x y c (c1 _ _ a) (c1 _ _ b)
 has:=λ x hx=>c2 x (lO (sc:=sc) (env:=X.env) hx L.cell)
 cab:=λ x c z=>absurd (show false=true from z) ft0
 hd:=I.ok.hd
 frames:=I.ok.frames
 stk:=.inl rfl
 exf:=λ b z=>⟨Nat.ne_of_lt (Nat.lt_of_lt_of_le (hb b z) hC),λ x c e=>(hf b z).2.2.2.2.1 x c (c1 _ _ e)⟩
 bs:=I.bs
 bsz:=Nat.le_trans I.ok.bsz I.sz
 noex:=λ b o e z=>by
  rcases(hf b z).2.2.2.1 with q | q
  ·exact I.ok.noex b o e q
  ·exact absurd (Nat.lt_of_lt_of_le (Heap.lt_size e) (Nat.le_trans I.ok.bsz q)) (Nat.lt_irrefl _)
 exfs:=λ b z q=>by
  rcases List.mem_cons.mp (I.qj b q) with e | e
  ·exact(hf b z).2.1 e
  ·exact(hf b z).2.2.1 e
 sI:=I.stack
 frf:=I.xq
theorem agf(L:yK X sc own fr)(I:Inv X pins σ H s)(hf:∀ b∈fp,yO X pins H b)(hb:∀ b∈fp,b<s.heap.objs.size)(hC:s.heap.objs.size<=C)
  (c1:∀ n c,cl.lookup n=some c->X.env.cells.lookup n=some c)(c2:∀ n,(n,NameKind.free)∈sc.names->∃ c,cl.lookup n=some c)
(hn:h1.Ns C m) (k:∀ b o,s.heap.get? b=some o->h1.get? b=some o) :
  Inv (blk X sc (lcN X own fr) cl C s H fp pins) [] (lcS own.length fr σ) H {s with heap:=h1,toks:=tk}:=by
 have ok:=ajy L I hf hb hC c1 c2;refine⟨ok,rfl,I.bare,Un.kept k,⟨m,hn,λ i x v e1 e2 e3=>?_⟩,λ x c e=>?_,I.hok.fresh hC,λ x c e=>I.freeC x c (c1 _ _ e),λ p hp=>?_,I.hok.kept k,?_⟩
 ·-- one of the names around
  have hi:¬ i<own.length:=λ hi=>by
   unfold lcS at e2;rw[List.getElem?_append_left (by simpa using hi),List.getElem?_replicate] at e2
   split at e2<;>cases e2
  have e1':(lcN X own fr)[i]? =some x:=e1;unfold lcN at e1';unfold lcS at e2;rw[List.getElem?_append_right (by omega),List.getElem?_map] at e1';rw[List.getElem?_append_right (by simpa using hi),List.getElem?_map,List.length_replicate] at e2;cases q:fr[i-own.length]? with
  | none=>rw[q] at e1';cases e1'
  | some j =>
   rw[q] at e1' e2;obtain⟨y,hy,hyf⟩:=acD L.fr (List.mem_of_getElem? q);have ex:y=x:=by have:=Option.some.inj e1';rw[<- this];simp[List.getD,hy]
   subst ex;have ev:σ[j]? =some (some v):=by
    have z:(σ[j]?).getD none=some v:=Option.some.inj e2;cases w:σ[j]? with
    | none=>rw[w] at z;cases z
    | some o=>rw[w] at z;exact congrArg some z
   have hm:(y,NameKind.free)∈sc.names:=PySem.mem_of_lookup hyf;have hk:=L.free _ hm rfl;have vis:Vis X.env.scope y:=by
    rcases hk with z | z
    ·exact .inr (.inl z)
    ·exact .inr (.inr z)
   obtain⟨m0,hn0,hl⟩:=I.loc;obtain⟨u,r,l⟩:=hl j y v hy ev vis;refine⟨u,r,.inr ⟨?_,?_⟩⟩
   ·exact fM (env:=X.env) hyf
   ·obtain⟨c,hc⟩:=c2 y hm;rcases l with ⟨z,_⟩ | ⟨_,c',hc',hcell⟩
    ·rcases hk with q | q
     ·exact absurd (show X.env.kindOf y=some .local from z) (by rw[q];decide)
     ·exact absurd (show X.env.kindOf y=some .local from z) (by rw[q];decide)
    ·have:c=c':=Option.some.inj ((c1 _ _ hc).symm.trans hc');subst this;obtain⟨o,ho,hd⟩:=hcell;exact⟨c,hc,o,k _ _ ho,hd⟩
 ·obtain⟨v,o,ho,hd⟩:=I.cell x c (c1 _ _ e);exact⟨v,o,k _ _ ho,hd⟩
 ·have hp':p∈X.pn++pins:=by simpa [blk] using hp
  obtain⟨a1,a2,a3,a4,a5⟩:=I.pin p hp';refine⟨k _ _ a1,a2,Nat.ne_of_lt (Nat.lt_of_lt_of_le (Heap.lt_size a1) hC),λ q=>?_,a5⟩;rcases List.mem_cons.mp (I.qj _ q) with e | e
  ·exact a3 e
  ·exact a4 e
 ·show(lcS own.length fr σ).length=(lcN X own fr).length;simp[lcS,lcN]
abbrev LcW:=Nat->Nat->List V->St->Hp->Prop
def aeM(J:It)(g:TG)(tt:TT)(te:TE)(W:LcW)(Fin:List V->Hp->Prop):Prop:=∀ i m ys τ H,W i m ys τ H ->
 (J.stop i H/\Fin ys H)\/(J.go i H/\ys.length<sizeLine/\∀ x H',J.yld i H x H'->g x τ H' λ τ2 H2=>tt τ2 H2 λ b H3 =>
  if b=true then te τ2 H3 λ y H4=>∃ m',m'<m/\W (i+1) m' (ys++[y]) τ2 H4 else ∃ m',m'<m/\W (i+1) m' ys τ2 H3)
section
variable {X:Cx}{pins:PN}{σ:St}{H:Hp}{s:Shared}{sc:Scope}{own:List Str}{fr:List Nat}{cl:List (Str×Addr)}{fp:List Addr}{it:Addr}{J:It}{tn:Nat->Heap->Prop}{g:TG}{tt:TT}{te:TE}{W:LcW}{Fin:List V->Hp->Prop}
 {elt tg iter:Expr}{ifs:List Expr}{pos:Pos}{E:VP}
theorem aaR{RR:Value->Addr->Result->Shared->Prop}(hc:X.calm=true)(L:yK X sc own fr)(hcl1:∀ n c,cl.lookup n=some c->X.env.cells.lookup n=some c)(hcl2:∀ n,(n,NameKind.free)∈sc.names->∃ c,cl.lookup n=some c)
  (hg:∀ C s H ex pl,PG (blk X sc (lcN X own fr) cl C s H ex pl) tg g)(ht:∀ C s H ex pl,PTs (blk X sc (lcN X own fr) cl C s H ex pl) ifs tt)(he:∀ C s H ex pl,PE (blk X sc (lcN X own fr) cl C s H ex pl) elt te)
  (I:Inv X pins σ H s)(T:Turn X.prog X.w X.K tg J fp it tn)(st:tn 0 s.heap)(hf:∀ b∈fp,yO X pins H b)(w0:∃ m,W 0 m [] (lcS own.length fr σ) H)(turn:aeM J g tt te W Fin)
  (hRR:∀ (D C:Addr) (s':Shared) (H':Hp) (ys:List V) (us:List Value) (n:Nat) (m:Str->Option Value),Inv X pins σ H' s'->s'.heap.get? D=some {cls:=.type "list",data:=.seq us.toArray n}->Vals ys us->ys.length<=sizeLine->H' D=none->H' C=none ->
   s.heap.objs.size<=D->s.heap.objs.size<=C->D≠C->s'.heap.Ns C m->Fin ys H'->RR (.ref D) C (.ok .next) s') :
  wpAny (model X.prog X.w) X.A (newList []) (λ acc s₃=>wpAny (model X.prog X.w) X.A (newFunctionEnv sc X.env.globals cl [] X.env.qual none .none (some X.env)) (λ cenv s₄ =>
   codeAny (model X.prog X.w) X.A (.compStart (.ListComp elt [⟨tg,iter,ifs,0⟩] sc pos) 0 (.ref it) acc {cenv with scope:=relabel sc X.env}) (RR acc cenv.locals) s₄) E s₃) E s:=by
 refine wpAny_newObj_type (wpAny_newFunctionEnv L.cell (by intro y hy;simp at hy) (λ h₁ hns₁ hsb₁=>?_) L.kind);dsimp only at hns₁ hsb₁ ⊢;generalize hH2:s.heap.push {cls:=.type "list",dict:=none,data:=.seq ([]:List Value).toArray}=H2 at hns₁ hsb₁ ⊢;have hCs:H2.objs.size=s.heap.objs.size+1:=by rw[<- hH2,Heap.size_push]
 have hD0:s.heap.objs.size≠H2.objs.size:=by rw[hCs];exact Nat.ne_of_lt (Nat.lt_succ_self _)
 have hCle:s.heap.objs.size<=H2.objs.size:=by rw[hCs];exact Nat.le_succ _
 have below:∀ b,b<s.heap.objs.size->b≠H2.objs.size/\b≠s.heap.objs.size:=λ b hb=>⟨by rw[hCs];exact Nat.ne_of_lt (Nat.lt_succ_of_lt hb),Nat.ne_of_lt hb⟩;have old:∀ b o,s.heap.get? b=some o->h₁.get? b=some o:=λ b o e=>hsb₁.extBut b o (below b (Heap.lt_size e)).1 (Heap.get?_push_of_some _ (hH2 ▸ Heap.get?_push_of_some _ e));have hacc:h₁.get? s.heap.objs.size=some {cls:=.type "list",data:=.seq ([]:List Value).toArray 0}:=hsb₁.extBut _ _ hD0 (Heap.get?_push_of_some _ (hH2 ▸ Heap.get?_push_size _ rfl));have hfb:∀ b∈fp,b<s.heap.objs.size:=λ b hb=>by obtain⟨o,e,_⟩:=T.obj 0 _ st b hb;exact Heap.lt_size e
 have I1:Inv (blk X sc (lcN X own fr) cl H2.objs.size s H fp pins) [] (lcS own.length fr σ) H {s with heap:=h₁,toks:=s.toks+([]:List (Str×Value)).length}:=agf L I hf hfb hCle hcl1 hcl2 hns₁ old;have st1:tn 0 h₁:=T.keep 0 _ _ st λ b _ o e=>old b o e;generalize hY:blk X sc (lcN X own fr) cl H2.objs.size s H fp pins=Y at I1;have hYp:Y.prog=X.prog:=by rw[<- hY];rfl
 have hYw:Y.w=X.w:=by rw[<- hY];rfl
 have hYK:Y.K=X.K:=by rw[<- hY];rfl
 have hYA:Y.A=X.A:=by rw[<- hY];rfl
 have hYc:Y.calm=true:=by rw[<- hY];exact hc
 have hYe:Y.env=compEnvC sc cl H2.objs.size X.env:=by rw[<- hY];rfl
 have hYx:Y.xe=λ _ _=>False:=by rw[<- hY];rfl
 have hYpn:Y.pn=X.pn++pins:=by rw[<- hY];rfl
 have hYs:Y.s₀=s:=by rw[<- hY];rfl
 have hYH:Y.H₀=H:=by rw[<- hY];rfl
 have hYex:Y.ex=fp:=by rw[<- hY];rfl
 have hYfs:Y.fs=frs X.stack:=by rw[<- hY];rfl
 have gY:=hg H2.objs.size s H fp pins;have tY:=ht H2.objs.size s H fp pins;have eY:=he H2.objs.size s H fp pins;rw[hY] at gY tY eY;have D_pin:∀ p∈Y.pn++([]:PN),p.1≠s.heap.objs.size:=λ p hp=>by rw[hYpn,List.append_nil] at hp;exact(below _ (Heap.lt_size (I.pin p hp).1)).2
 have D_cell:∀ x c,Y.env.cells.lookup x=some c->c≠s.heap.objs.size:=λ x c e=>by rw[hYe] at e;obtain⟨v,z⟩:=I.cell x c (hcl1 _ _ e);exact(below _ z.lt).2
 have D_loc:s.heap.objs.size≠Y.env.locals:=by rw[hYe];exact hD0
 have D_fs:s.heap.objs.size ∉ Y.fs:=by
  rw[hYfs];intro z;rcases List.mem_cons.mp (I.qj _ z) with e | e
  ·exact absurd I.lt (by rw[<- e];exact Nat.lt_irrefl _)
  ·exact I.alK (lr0 _) e
 have fpY:∀ {H':Hp} (pl:PN),(∀ b∈fp,H' b=none)->(∀ p∈pl,p.1=s.heap.objs.size)->∀ b∈fp,yO Y pl H' b:=λ {H'} pl hn hp b hb=>by
  obtain⟨_,f1,f2,f3,f4,f5⟩:=hf b hb;refine⟨hn b hb,by rw[hYe];exact(below b (hfb b hb)).1,?_,.inl (by rw[hYex];exact hb),λ x c e=>?_,λ p q=>?_⟩
  ·rw[hYfs];intro z;rcases List.mem_cons.mp (I.qj _ z) with e | e
   ·exact f1 e
   ·exact f2 e
  ·rw[hYe] at e;exact f4 x c (hcl1 _ _ e)
  ·rcases List.mem_append.mp q with z | z
   ·rw[hYpn] at z;exact f5 p z
   ·rw[hp p z];exact Ne.symm (below b (hfb b hb)).2
 have loop:∀ s₃:Shared,s₃={s with heap:=h₁,toks:=s.toks+([]:List (Str×Value)).length} ->
   codeAny (model X.prog X.w) X.A (.compLoop (.ListComp elt [⟨tg,iter,ifs,0⟩] sc pos) 0 (.ref it) (.ref s.heap.objs.size) (compEnvC sc cl H2.objs.size X.env)) (RR (.ref s.heap.objs.size) H2.objs.size) s₃:=by
  rintro s₃ rfl;obtain⟨m0,w0⟩:=w0;refine tj (λ n s'=>∃ i ys τ H' us k,Inv Y [] τ H' s'/\tn i s'.heap/\(∀ b∈fp,H' b=none)/\H' s.heap.objs.size=none/\s'.heap.get? s.heap.objs.size=some {cls:=.type "list",data:=.seq us.toArray k}/\Vals ys us/\ys.length<=sizeLine/\W i n ys τ H') ?_ m0
   ⟨0,[],_,H,[],0,I1,st1,λ b hb=>(hf b hb).1,I.hok.fresh (lr0 _),hacc,.nil,Nat.zero_le _,w0⟩
  rintro n s' ⟨i,ys,τ,H',us,k,I',st',hn',hD',ha',hv',hz',w'⟩;have Ip:Inv Y [(s.heap.objs.size,{cls:=.type "list",data:=.seq us.toArray k})] τ H' s':=I'.lb λ p hp=>by
   have e:p=(s.heap.objs.size,{cls:=.type "list",data:=.seq us.toArray k}):=by simpa using hp
   subst e;exact⟨ha',hD',D_loc,D_fs,λ v z=>nomatch (show Data.seq _ _=Data.cell v from z)⟩
  have onlyD:∀ p∈[((s.heap.objs.size,{cls:=.type "list",data:=.seq us.toArray k}):Addr×Obj)],p.1=s.heap.objs.size:=λ p hp=>by
   have e:p=(s.heap.objs.size,{cls:=.type "list",data:=.seq us.toArray k}):=by simpa using hp
   subst e;rfl
  rcases turn i n ys τ H' w' with ⟨stop,fin⟩ | ⟨go,hlen,step⟩
  ·have q:=T.done Y hYp hYw hYK hYc i _ s' τ H' (λ _ _=>False) Ip (fpY _ hn' onlyD) st' stop;rw[hYA] at q;refine thn q λ r s4 hq30=>?_;obtain⟨hr,I4⟩:=hq30;subst hr;have un:Un (frs X.stack) fp H H' s.heap s4.heap:=by have z:=I4.base;rw[hYfs,hYex,hYH,hYs] at z;exact z
   have os4:s4.os=s.os:=by have z:=I4.os;rw[hYs] at z;exact z
   have hok4:HOk X.prog X.w H' s4.heap:=by have z:=I4.hok;rw[hYp,hYw] at z;exact z
   have hch:∀ b∈fp,(b∈X.ex\/X.s₀.heap.objs.size<=b)/\b≠X.env.locals/\(∀ x c,X.env.cells.lookup x=some c->c≠b)/\∀ p∈X.pn++pins,p.1≠b:=λ b hb=>by obtain⟨_,f1,f2,f3,f4,f5⟩:=hf b hb;exact⟨f3,f1,f4,f5⟩
   have IX:Inv X pins σ H' s4:=I.afb os4 un hok4 I4.bare hch;obtain⟨mC,hmC,_⟩:=I4.loc;have hCf:=I4.free;rw[hYe] at hmC hCf;have pD:=I4.pin (s.heap.objs.size,{cls:=.type "list",data:=.seq us.toArray k}) (List.mem_append_right _ (List.mem_singleton.mpr rfl));exact hRR _ _ s4 H' ys us k mC IX pD.1 hv' hz' pD.2.1 hCf (lr0 _) hCle hD0 hmC fin
  ·have q:=T.item Y hYp hYw hYK hYc i _ s' τ H' (λ _ _=>False) Ip (fpY _ hn' onlyD) st' go;rw[hYA] at q;refine thn q λ r s4 hq31=>?_;obtain⟨u,hr,h4⟩:=hq31;subst hr;refine thn h4 λ _ s5 hq32=>?_;obtain⟨x,H5,I5,r5,y5,st5,fr5⟩:=hq32;have I5':=I5.pinned (fpY _ fr5 onlyD) (T.obj _ _ st5);have g5:=gY _ s5 τ H5 x u _ I5' r5 (step x H5 y5);rw[hYp,hYw,hYA,hYe,hYx] at g5;refine thn g5 λ _ s6 hq33=>?_;obtain⟨σ6,H6,I6,q6⟩:=hq33;have t6:=tY _ s6 σ6 H6 _ I6 q6;rw[hYp,hYw,hYA,hYe,hYx] at t6;refine thn t6 λ ok s7 hq34=>?_;obtain⟨H7,I7,q7⟩:=hq34;have keepD:∀ {σ8:St} {H8:Hp} {s8:Shared},Inv Y ([(s.heap.objs.size,{cls:=.type "list",data:=.seq us.toArray k})]++qI fp s5.heap) σ8 H8 s8->s8.heap.get? s.heap.objs.size=some {cls:=.type "list",data:=.seq us.toArray k}/\H8 s.heap.objs.size=none:=
    λ {σ8 H8 s8} I8=>by have pD:=I8.pin (s.heap.objs.size,{cls:=.type "list",data:=.seq us.toArray k}) (List.mem_append_right _ (List.mem_append_left _ (List.mem_singleton.mpr rfl)));exact⟨pD.1,pD.2.1⟩
   have keepI:∀ {σ8:St} {H8:Hp} {s8:Shared},Inv Y ([(s.heap.objs.size,{cls:=.type "list",data:=.seq us.toArray k})]++qI fp s5.heap) σ8 H8 s8->tn (i+1) s8.heap/\∀ b∈fp,H8 b=none:=
    λ {σ8 H8 s8} I8=>by refine⟨T.keep _ _ _ st5 λ b hb o e=>(I8.pin (b,o) (List.mem_append_right _ (List.mem_append_right _ (iX hb e)))).1,λ b hb=>?_⟩;obtain⟨o,e,d⟩:=T.obj _ _ st5 b hb;exact(I8.pin (b,o) (List.mem_append_right _ (List.mem_append_right _ (iX hb e)))).2.1
   cases ok with
   | false =>
    rw[if_neg ft0] at q7 ⊢;obtain⟨m',hm',w7⟩:=q7;obtain⟨a7,b7⟩:=keepD I7;obtain⟨c7,d7⟩:=keepI I7;exact⟨m',hm',i+1,ys,σ6,H7,us,k,I7.lb (λ p hp=>(nomatch hp)),c7,d7,b7,a7,hv',hz',w7⟩
   | true =>
    rw[if_pos rfl] at q7 ⊢;have e7:=eY _ s7 σ6 H7 _ I7 q7;rw[hYp,hYw,hYA,hYe,hYx] at e7;refine thn e7 λ v s8 hq35=>?_;obtain⟨y,H8,I8,r8,m',hm',w8⟩:=hq35;obtain⟨a8,b8⟩:=keepD I8;obtain⟨c8,d8⟩:=keepI I8;have hl:=hv'.length;refine call_meets F.slot_list_append ⟨_,a8,rfl⟩ F.entry_list_append (F.args_list_append_2 _ _) (PySem.list_append s.heap.objs.size us.toArray k v (by rw[List.size_toArray];omega)) ⟨a8,?_⟩;have qu:=PySem.IsL.update a8 (λ xs=>xs.push v);have I9:=(I8.lb (pins':=[]) λ p hp=>nomatch hp).turned (it:=s.heap.objs.size) (t':=s8.toks) (h':=s8.heap.update s.heap.objs.size (Obj.mapSeq λ xs=>xs.push v)) (λ b o hb e=>(Heap.get?_update_other s8.heap _ (Ne.symm hb)).trans e) b8 D_loc (.inr (by rw[hYs];exact lr0 _)) D_cell D_pin;have ep:us.toArray.push v=(us++[v]).toArray:=by simp
    rw[ep] at qu;refine⟨m',hm',i+1,ys++[y],σ6,H8,us++[v],(if (us++[v]).toArray.size==us.toArray.size then k else k+1),I9,T.keep _ _ _ c8 λ b hb o e=>(Heap.get?_update_other s8.heap _ (Ne.symm (below b (hfb b hb)).2)).trans e,d8,b8,?_,hv'.append (.cons r8 .nil),?_,w8⟩
    ·exact qu
    ·rw[List.length_append,List.length_singleton];omega
 exact codeAny_compStart_list (loop _ rfl) (T.self _ 0 _ _ _ st1 (loop _ rfl))
def tLC(wi:TI)(g:TG)(tt:TT)(te:TE)(k:Nat)(fr:List Nat):TE:=λ σ H Q=>wi σ H λ J H1=>∃ W:LcW,(∃ m,W 0 m [] (lcS k fr σ) H1)/\aeM J g tt te W λ ys H2=>∀ p,H2 p=none->Q (.ref p) (upd H2 p (.lst ys))
theorem qr(L:yK X sc own fr)(ok:X.Ok):∃ cl,closureFor sc X.env=pure cl/\(∀ n c,cl.lookup n=some c->X.env.cells.lookup n=some c)/\(∀ n,(n,NameKind.free)∈sc.names->∃ c,cl.lookup n=some c):=
 ve λ x hx hf=>ok.has x.1 (L.free x hx hf)
theorem ajg(hc:X.calm=true)(L:yK X sc own fr)(hi:PI X tg iter wi)
  (hg:∀ cl C s H ex pl,PG (blk X sc (lcN X own fr) cl C s H ex pl) tg g)(ht:∀ cl C s H ex pl,PTs (blk X sc (lcN X own fr) cl C s H ex pl) ifs tt)(he:∀ cl C s H ex pl,PE (blk X sc (lcN X own fr) cl C s H ex pl) elt te)
  (hs:∀ x,foldedSetIterable iter X.env x=pure x:=by intro _;rfl):PE X (.ListComp elt [⟨tg,iter,ifs,0⟩] sc pos) (tLC wi g tt te own.length fr):=by
 intro pins s σ H Q I h;obtain⟨cl,hcl,c1,c2⟩:=qr L I.ok;rw[eval_ListComp];refine wpAny_comprehension_free (use:=none) (g:=⟨tg,iter,ifs,0⟩) (gs:=[]) rfl hs hcl L.kind L.names ?_;refine thn (hi pins s σ H _ I h) λ v s1 h1=>thn h1 λ itv s2 h2=>?_;obtain⟨it,fp,tn,J,H2,e,I2,T,st2,f2,W,w0,turn⟩:=h2;subst e;refine aaR (cl:=cl) hc L c1 c2 (hg cl) (ht cl) (he cl) I2 T st2 f2 w0 turn λ D C s' H' ys us n m I' a' hv hz hD hC dD dC hDC hns fin=>?_;refine⟨m,hns,λ h' sb=>?_⟩;have far:∀ b,s2.heap.objs.size<=b->(X.s₀.heap.objs.size<=b)/\b≠X.env.locals/\(∀ x c,X.env.cells.lookup x=some c->c≠b)/\∀ p∈X.pn++pins,p.1≠b:=λ b hb=>by obtain⟨_,f1,_,f3,f4,f5⟩:=I2.zJ (H':=λ _=>none) hb rfl;refine⟨Nat.le_trans I2.sz hb,f1,f4,f5⟩
 obtain⟨z1,z2,z3,z4⟩:=far C dC;obtain⟨y1,y2,y3,y4⟩:=far D dD;have I3:Inv X pins σ H' {s' with heap:=h'}:=I'.turned (t':=s'.toks) (λ b o hb e=>sb.extBut b o hb e) hC z2 (.inr z1) z3 z4;exact⟨.ref D,_,I3.ajQ (sb.extBut _ _ hDC a') hD hv hz y1 y2 y3 y4,rfl,fin D hD⟩
theorem adW(hN:X.N.Nodup)(hi':X.N[i]? =some x)(hx:Loc X.env.scope x)(hc:X.calm=true)(L:yK X sc own fr)(hi:PI X tg iter wi)
  (hg:∀ cl C s H ex pl,PG (blk X sc (lcN X own fr) cl C s H ex pl) tg g)(ht:∀ cl C s H ex pl,PTs (blk X sc (lcN X own fr) cl C s H ex pl) ifs tt)(he:∀ cl C s H ex pl,PE (blk X sc (lcN X own fr) cl C s H ex pl) elt te)
  (hsw:swapsWith (.ListComp elt [⟨tg,iter,ifs,0⟩] sc pos) (some (.Name x pos')) spos.line X.env=pure true:=by rfl)
  (hs:∀ x,foldedSetIterable iter X.env x=pure x:=by intro _;rfl)(hf:X.fn x=true\/X.env.scope.names.lookup x=some .local:=by first | exact .inl rfl | exact .inr rfl | assumption) :
  PS X (.Assign [.Name x pos'] (.ListComp elt [⟨tg,iter,ifs,0⟩] sc pos) spos) (akd (tLC wi g tt te own.length fr) (afl i)):=by
 intro pins s σ H D' I h;obtain⟨cl,hcl,c1,c2⟩:=qr L I.ok;rw[exec_Assign_Name_used _ _ _ _ hsw];refine wb0 (wpAny_standAt (wb0 ?_));show wpAny _ _ (evalThenUse (.ListComp elt [⟨tg,iter,ifs,0⟩] sc pos) X.env (assign (.Name x pos') X.env)) _ _ _;unfold evalThenUse;refine wb0 ?_;refine wpAny_comprehension_free (use:=some (assign (.Name x pos') X.env)) (g:=⟨tg,iter,ifs,0⟩) (gs:=[]) rfl hs hcl L.kind L.names ?_;refine thn (hi pins s σ H _ I h) λ v s1 h1=>thn h1 λ itv s2 h2=>?_;obtain⟨it,fp,tn,J,H2,e,I2,T,st2,f2,W,w0,turn⟩:=h2;subst e;refine aaR (cl:=cl) hc L c1 c2 (hg cl) (ht cl) (he cl) I2 T st2 f2 w0 turn λ D C s' H' ys us n m I' a' hv hz hD hC dD dC hDC hns fin=>?_;have far:∀ b,s2.heap.objs.size<=b->(X.s₀.heap.objs.size<=b)/\b≠X.env.locals/\(∀ x c,X.env.cells.lookup x=some c->c≠b)/\(b ∉ X.fs)/\∀ p∈X.pn++pins,p.1≠b:=λ b hb=>by obtain⟨_,f1,f2,f3,f4,f5⟩:=I2.zJ (H':=λ _=>none) hb rfl;refine⟨Nat.le_trans I2.sz hb,f1,f4,f2,f5⟩
 obtain⟨z1,z2,z3,z0,z4⟩:=far C dC;obtain⟨y1,y2,y3,_,y4⟩:=far D dD;have I3:=I'.ajQ a' hD hv hz y1 y2 y3 y4;obtain⟨oC,hoC,nsC⟩:∃ o,s'.heap.get? C=some o/\∃ es ep,o.data=.dict es ep:=by obtain⟨o,es,ep,e1,e2,_⟩:=hns;exact⟨o,e1,es,ep,e2⟩
 have hCt:(upd H' D (.lst ys)) C=none:=by rw[aB (Ne.symm hDC)];exact hC
 have I4:Inv X (pins++[(C,oC)]) σ (upd H' D (.lst ys)) s':=I3.lb λ p hp=>by
  rcases List.mem_append.mp hp with z | z
  ·exact I3.pin p (List.mem_append_right _ z)
  ·have e:p=(C,oC):=by simpa using z
   subst e;obtain⟨es,ep,hd⟩:=nsC;exact⟨hoC,hCt,z2,z0,λ v z=>by have z':oC.data=.cell v:=z;rw[hd] at z';cases z'⟩
 refine thn (aaM (pos:=pos') hN hi' hx hf _ s' σ _ (.ref D) (.ref D) _ I4 rfl (fin D hD)) λ _ s5 hq36=>?_;obtain⟨σ5,H5,I5,q5⟩:=hq36;have pC:=I5.pin (C,oC) (List.mem_append_right _ (List.mem_append_right _ (List.mem_singleton.mpr rfl)));obtain⟨o,es,ep,e1,e2,e3⟩:=hns;rw[hoC] at e1;cases e1;refine⟨m,⟨oC,es,ep,pC.1,e2,e3⟩,λ h' sb=>?_⟩;have I6:Inv X pins σ5 H5 {s5 with heap:=h'}:=(I5.mK).turned (t':=s5.toks) (λ b o hb e=>sb.extBut b o hb e) pC.2.1 z2 (.inr z1) z3 z4;exact wp0 (wp0 ⟨σ5,H5,I6,q5⟩)
end
end L2
namespace D
open L2
abbrev St:=L2.St
structure Kp(H H':Hp):Prop where
 tup:∀ b xs,H b=some (.tup xs)->H' b=some (.tup xs)
 frz:∀ b o u,H b=some (.frz o u)->H' b=some (.frz o u)
theorem Kp.refl(H:Hp):Kp H H:=⟨λ _ _ e=>e,λ _ _ _ e=>e⟩
theorem Kp.trans(a:Kp H H1)(b:Kp H1 H2):Kp H H2:=⟨λ c xs e=>b.tup c xs (a.tup c xs e),λ c o u e=>b.frz c o u (a.frz c o u e)⟩
theorem Kp.new(h:H p=none):Kp H (upd H p o):=⟨λ b xs e=>by rw[aB (bI e h)];exact e,λ b ob u e=>by rw[aB (bI e h)];exact e⟩
theorem Kp.set(h:H p=some u)(ht:∀ xs,u ≠ .tup xs)(hf:∀ ob v,u ≠ .frz ob v):Kp H (upd H p o):=
 ⟨λ b xs e=>by rw[aB (afJ e h λ z=>ht _ z.symm)];exact e,λ b ob v e=>by rw[aB (afJ e h λ z=>hf _ _ z.symm)];exact e⟩
theorem Kp.un(u:Un fs ex H H' h h'):Kp H H':=⟨u.tups,u.frzs⟩
def SqF(K:FG)(H:Hp)(a:Addr)(xs:List V):Prop:=
 (∃ o,H a=some (.frz o (.lst xs)))\/∃ (o:Obj) (its:Array Value) (n:Nat),K.lookup a=some o/\o.cls=.type "list" /\ o.dict=none/\o.data=.seq its n/\its.size<=sizeLine/\Vals xs its.toList
theorem SqF.sq{K:FG}{H:Hp}{a:Addr}{xs:List V}(h:SqF K H a xs):SqL K H a xs:=by
 rcases h with h | h
 ·exact .inl (.inr h)
 ·exact .inr h
theorem SqF.keep{K:FG}{H H':Hp}{a:Addr}{xs:List V}(k:Kp H H')(h:SqF K H a xs):SqF K H' a xs:=by
 rcases h with ⟨o,h⟩ | h
 ·exact .inl ⟨o,k.frz _ _ _ h⟩
 ·exact .inr h
theorem SqT.keep{K:FG}{H H':Hp}{a:Addr}{xs:List V}(k:Kp H H')(h:SqT K H a xs):SqT K H' a xs:=by
 rcases h with (h | ⟨o,h⟩) | h
 ·exact .inl (.inl (k.tup _ _ h))
 ·exact .inl (.inr ⟨o,k.frz _ _ _ h⟩)
 ·exact .inr h
def tE:Key->PyData
 | .inl i=>.int i
 | .inr x=>.str x
mutual
def aN(K:FG)(H:Hp):PyData->V->Prop
 | .none,v=>v=.non
 | .bool b,v=>v=.bl b
 | .int i,v=>v=.int i
 | .str x,v=>v=.str x
 | .list ds,v=>∃ a vs,v=.ref a/\SqF K H a vs/\bJ K H ds vs
 | .tuple ds,v=>∃ a vs,v=.ref a/\SqT K H a vs/\bJ K H ds vs
 | .dict kvs,v=>∃ a o l,v=.ref a/\H a=some (.frz o (.dK l))/\l4 K H kvs l
def bJ(K:FG)(H:Hp):List PyData->List V->Prop
 | [],vs=>vs=[]
 | d::ds,vs=>∃ v r,vs=v::r/\aN K H d v/\bJ K H ds r
def l4(K:FG)(H:Hp):List (PyData×PyData)->List (Key×V)->Prop
 | [],l=>l=[]
 | (k,d)::ds,l=>∃ key v r,l=(key,v)::r/\k=tE key/\aN K H d v/\l4 K H ds r
end
mutual
theorem aN.keep{K:FG}{H H':Hp}(k:Kp H H'):∀ {d:PyData} {v:V},aN K H d v->aN K H' d v
 | .none,v,h=>by simp only[aN] at h ⊢;exact h
 | .bool b,v,h=>by simp only[aN] at h ⊢;exact h
 | .int i,v,h=>by simp only[aN] at h ⊢;exact h
 | .str x,v,h=>by simp only[aN] at h ⊢;exact h
 | .list ds,v,h=>by simp only[aN] at h ⊢;obtain⟨a,vs,e,s,r⟩:=h;exact⟨a,vs,e,s.keep k,bJ.keep k r⟩
 | .tuple ds,v,h=>by simp only[aN] at h ⊢;obtain⟨a,vs,e,s,r⟩:=h;exact⟨a,vs,e,SqT.keep k s,bJ.keep k r⟩
 | .dict kvs,v,h=>by simp only[aN] at h ⊢;obtain⟨a,o,l,e,s,r⟩:=h;exact⟨a,o,l,e,k.frz _ _ _ s,l4.keep k r⟩
theorem bJ.keep{K:FG}{H H':Hp}(k:Kp H H'):∀ {ds:List PyData} {vs:List V},bJ K H ds vs->bJ K H' ds vs
 | [],vs,h=>by simp only[bJ] at h ⊢;exact h
 | d::ds,vs,h=>by simp only[bJ] at h ⊢;obtain⟨v,r,e,h1,h2⟩:=h;exact⟨v,r,e,aN.keep k h1,bJ.keep k h2⟩
theorem l4.keep{K:FG}{H H':Hp}(k:Kp H H'):∀ {ds:List (PyData×PyData)} {l:List (Key×V)},l4 K H ds l->l4 K H' ds l
 | [],l,h=>by simp only[l4] at h ⊢;exact h
 | (key,d)::ds,l,h=>by simp only[l4] at h ⊢;obtain⟨k',v,r,e,ek,h1,h2⟩:=h;exact⟨k',v,r,e,ek,aN.keep k h1,l4.keep k h2⟩
end
theorem bJ.length{K:FG}{H:Hp}:∀ {ds:List PyData} {vs:List V},bJ K H ds vs->vs.length=ds.length
 | [],vs,h=>by simp only[bJ] at h;rw[h];rfl
 | d::ds,vs,h=>by simp only[bJ] at h;obtain⟨v,r,e,_,h2⟩:=h;rw[e,List.length_cons,List.length_cons,bJ.length h2]
theorem bJ.get{K:FG}{H:Hp}:∀ {ds:List PyData} {vs:List V} {i:Nat} {d:PyData},bJ K H ds vs->ds[i]? =some d->∃ v,vs[i]? =some v/\aN K H d v
 | [],_,_,_,_,e=>by simp at e
 | d::ds,vs,0,d',h,e=>by simp only[bJ] at h;obtain⟨v,r,ev,h1,_⟩:=h;simp at e;subst e;exact⟨v,by rw[ev];rfl,h1⟩
 | d::ds,vs,i+1,d',h,e=>by simp only[bJ] at h;obtain⟨v,r,ev,_,h2⟩:=h;obtain⟨v',e1,e2⟩:=bJ.get (i:=i) h2 (by simpa using e);exact⟨v',by rw[ev];simpa using e1,e2⟩
theorem bJ.get'{K:FG}{H:Hp}{ds:List PyData}{vs:List V}{i:Nat}{v:V}(h:bJ K H ds vs)(e:vs[i]? =some v):∃ d,ds[i]? =some d/\aN K H d v:=by
 have hi:i<ds.length:=by have:=(List.getElem?_eq_some_iff.mp e).1;rw[h.length] at this;exact this
 obtain⟨v',e1,r⟩:=h.get (i:=i) (d:=ds[i]) (by simp[hi]);rw[e] at e1;cases e1;exact⟨ds[i],by simp[hi],r⟩
theorem bJ.ints{K:FG}{H:Hp}:∀ (ns:List Int),bJ K H (ns.map PyData.int) (ns.map V.int)
 | []=>by simp[bJ]
 | n::ns=>by simp only[List.map_cons,bJ];exact⟨_,_,rfl,by simp[aN],bJ.ints ns⟩
theorem bJ.append{K:FG}{H:Hp}:∀ {ds es:List PyData} {vs us:List V},bJ K H ds vs->bJ K H es us->bJ K H (ds++es) (vs++us)
 | [],es,vs,us,h,q=>by simp only[bJ] at h;subst h;exact q
 | d::ds,es,vs,us,h,q=>by simp only[bJ] at h;obtain⟨v,r,e,h1,h2⟩:=h;subst e;simp only[List.cons_append,bJ];exact⟨v,r++us,rfl,h1,bJ.append h2 q⟩
theorem bJ.drop{K:FG}{H:Hp}:∀ {ds:List PyData} {vs:List V} (n:Nat),bJ K H ds vs->bJ K H (ds.drop n) (vs.drop n)
 | ds,vs,0,h=>by simpa using h
 | [],vs,n+1,h=>by simp only[bJ] at h;subst h;simp[bJ]
 | d::ds,vs,n+1,h=>by
  simp only[bJ] at h;obtain⟨v,r,e,_,h2⟩:=h;subst e
  simpa using bJ.drop n h2
theorem bJ.take{K:FG}{H:Hp}:∀ {ds:List PyData} {vs:List V} (n:Nat),bJ K H ds vs->bJ K H (ds.take n) (vs.take n)
 | ds,vs,0,h=>by simp[bJ]
 | [],vs,n+1,h=>by simp only[bJ] at h;subst h;simp[bJ]
 | d::ds,vs,n+1,h=>by simp only[bJ] at h;obtain⟨v,r,e,h1,h2⟩:=h;subst e;simp only[List.take_succ_cons,bJ];exact⟨v,_,rfl,h1,bJ.take n h2⟩
inductive W where
 | d (x:PyData)
 | m (a:Addr)
 | t (n:String)
inductive MO where
 | lst (ws:List W)
 | dic (kvs:List (Key×W))
 | dct (kvs:List (List Key×W))
 | fdic (kvs:List (Key×W))
 | ins (C:Addr) (fs:List (Str×W))
 | tup (ws:List W)
 | flst (ws:List W)
 | exc (C:Addr) (fs:List (Str×W))
 | code (q:Str) (pos:Pos)
abbrev MH:=Addr->Option MO
def bC(M:MH)(a:Addr)(o:MO):MH:=λ b=>if b=a then some o else M b
theorem ao:bC M a o a=some o:=if_pos rfl
theorem ar(h:b≠a):bC M a o b=M b:=if_neg h
theorem fQ:bC (bC M a o) a u=bC M a u:=by funext b;unfold bC;split<;>rfl
abbrev DS:=List (Option W)
def aQ(K:FG)(H:Hp):W->V->Prop
 | .d x,v=>aN K H x v
 | .m a,v=>v=.ref a
 | .t n,v=>v=.ty n
theorem aQ.keep{K:FG}{H H':Hp}(k:Kp H H'):∀ {w:W} {v:V},aQ K H w v->aQ K H' w v
 | .d _,_,h=>aN.keep k h
 | .m _,_,h=>h
 | .t _,_,h=>h
def bu(K:FG)(H:Hp):List W->List V->Prop:=Paired (aQ K H)
theorem bu.keep{K:FG}{H H':Hp}(k:Kp H H'){ws:List W}{vs:List V}(h:bu K H ws vs):bu K H' ws vs:=Paired.lV h λ _ _ r=>r.keep k
theorem bu.length{K:FG}{H:Hp}{ws:List W}{vs:List V}(h:bu K H ws vs):ws.length=vs.length:=Paired.length h
theorem bu.get{K:FG}{H:Hp}:∀ {ws:List W} {vs:List V} {i:Nat} {w:W},bu K H ws vs->ws[i]? =some w->∃ v,vs[i]? =some v/\aQ K H w v
 | _,_,_,_,.nil,e=>by simp at e
 | _,_,0,_,.cons r _,e=>by simp at e;subst e;exact⟨_,rfl,r⟩
 | _,_,i+1,_,.cons _ t,e=>by obtain⟨u,h1,h2⟩:=bu.get (i:=i) t (by simpa using e);exact⟨u,by simpa using h1,h2⟩
theorem bu.set{K:FG}{H:Hp}{w:W}{v:V}(r:aQ K H w v):∀ {ws:List W} {vs:List V} (i:Nat),bu K H ws vs->bu K H (ws.set i w) (vs.set i v)
 | _,_,_,.nil=>.nil
 | _,_,0,.cons _ t=>.cons r t
 | _,_,i+1,.cons q t=>.cons q (bu.set r i t)
theorem bu.append{K:FG}{H:Hp}:∀ {ws ws':List W} {vs vs':List V},bu K H ws vs->bu K H ws' vs'->bu K H (ws++ws') (vs++vs')
 | _,_,_,_,.nil,s=>s
 | _,_,_,_,.cons r t,s=>.cons r (bu.append t s)
theorem bu.data{K:FG}{H:Hp}:∀ {ds:List PyData} {vs:List V},bu K H (ds.map W.d) vs->bJ K H ds vs
 | [],_,h=>by cases h;simp[bJ]
 | d::ds,_,h=>by
  cases h with
  | cons r t=>simp only[bJ];exact⟨_,_,rfl,r,bu.data t⟩
theorem bJ.ws{K:FG}{H:Hp}:∀ {ds:List PyData} {vs:List V},bJ K H ds vs->bu K H (ds.map W.d) vs
 | [],vs,h=>by simp only[bJ] at h;subst h;exact .nil
 | d::ds,vs,h=>by simp only[bJ] at h;obtain⟨v,r,e,h1,h2⟩:=h;subst e;exact .cons h1 (bJ.ws h2)
def afC(K:FG)(H:Hp)(a:Addr):MO->Prop
 | .lst ws=>∃ vs,H a=some (.lst vs)/\bu K H ws vs
 | .dic kvs=>∃ l,H a=some (.dK l)/\Paired (λ(p:Key×W) (q:Key×V)=>p.1=q.1/\aQ K H p.2 q.2) kvs l
 | .fdic kvs=>∃ o l,H a=some (.frz o (.frz o (.dK l)))/\Paired (λ(p:Key×W) (q:Key×V)=>p.1=q.1/\aQ K H p.2 q.2) kvs l
 | .dct kvs=>∃ l,H a=some (.dT l)/\Paired (λ(p:List Key×W) (q:List Key×V)=>p.1=q.1/\aQ K H p.2 q.2) kvs l
 | .ins C fs=>∃ dx l,H a=some (.ins C dx l)/\Paired (λ(p:Str×W) (q:Str×V)=>p.1=q.1/\aQ K H p.2 q.2) fs l
 | .tup ws=>∃ vs,H a=some (.tup vs)/\bu K H ws vs
 | .flst ws=>∃ o vs,H a=some (.frz o (.frz o (.lst vs)))/\bu K H ws vs
 | .exc C fs=>∃ φ dct,H a=some (.ext φ)/\(∀ h,φ h->∃ vs,h.get? a=some {cls:=.ref C,dict:=dct,data:=.fields vs}/\(fs=[]->vs[2]? =some .none)) /\
   ((dct=none/\fs=[])\/∃ dx o l,dct=some dx/\H dx=some (.frz o (.xd l))/\Paired (λ(p:Str×W) (q:Str×V)=>p.1=q.1/\aQ K H p.2 q.2) fs l)
 | .code q pos=>∃ ps,H a=some (.tbl ps)/\TriplesOk ps.toList/\(codeAmong pos ps.toList=none\/∃ c o vs t,codeAmong pos ps.toList=some (.ref c)/\H c=some (.frz o (.own 0))/\o.data=.fields vs/\vs[1]? =some (.str q t))
def cX(K:FG)(H:Hp)(M:MH):Prop:=∀ a o,M a=some o->afC K H a o
theorem afC.is{K:FG}{H:Hp}{a:Addr}{o:MO}(h:afC K H a o):∃ u,H a=some u:=by
 cases o with
 | lst ws=>obtain⟨vs,e,_⟩:=h;exact⟨_,e⟩
 | dic kvs=>obtain⟨l,e,_⟩:=h;exact⟨_,e⟩
 | dct kvs=>obtain⟨l,e,_⟩:=h;exact⟨_,e⟩
 | fdic kvs=>obtain⟨o,l,e,_⟩:=h;exact⟨_,e⟩
 | ins C fs=>obtain⟨dx,l,e,_⟩:=h;exact⟨_,e⟩
 | tup ws=>obtain⟨vs,e,_⟩:=h;exact⟨_,e⟩
 | flst ws=>obtain⟨o,vs,e,_⟩:=h;exact⟨_,e⟩
 | exc C fs=>obtain⟨φ,dct,e,_⟩:=h;exact⟨_,e⟩
 | code q pos=>obtain⟨ps,e,_⟩:=h;exact⟨_,e⟩
theorem cX.free{K:FG}{H:Hp}{M:MH}(h:cX K H M){p:Addr}(e:H p=none):M p=none:=by
 cases q:M p with
 | none=>rfl
 | some o =>
  obtain⟨u,z⟩:=(h p o q).is;rw[e] at z;cases z
theorem afC.keep{K:FG}{H H':Hp}{a:Addr}{o:MO}(k:Kp H H')(s:∀ u,H a=some u->H' a=some u)(h:afC K H a o):afC K H' a o:=by
 cases o with
 | lst ws=>obtain⟨vs,e,r⟩:=h;exact⟨vs,s _ e,r.keep k⟩
 | dic kvs=>obtain⟨l,e,r⟩:=h;exact⟨l,s _ e,Paired.lV r λ p q z=>⟨z.1,z.2.keep k⟩⟩
 | dct kvs=>obtain⟨l,e,r⟩:=h;exact⟨l,s _ e,Paired.lV r λ p q z=>⟨z.1,z.2.keep k⟩⟩
 | fdic kvs=>obtain⟨o,l,e,r⟩:=h;exact⟨o,l,s _ e,Paired.lV r λ p q z=>⟨z.1,z.2.keep k⟩⟩
 | ins C fs=>obtain⟨dx,l,e,r⟩:=h;exact⟨dx,l,s _ e,Paired.lV r λ p q z=>⟨z.1,z.2.keep k⟩⟩
 | tup ws=>obtain⟨vs,e,r⟩:=h;exact⟨vs,s _ e,r.keep k⟩
 | flst ws=>obtain⟨o,vs,e,r⟩:=h;exact⟨o,vs,s _ e,r.keep k⟩
 | exc C fs =>
  obtain⟨φ,dct,e,p,r⟩:=h;refine⟨φ,dct,s _ e,p,?_⟩;rcases r with r | ⟨dx,o,l,e1,e2,r⟩
  ·exact .inl r
  ·exact .inr ⟨dx,o,l,e1,k.frz _ _ _ e2,Paired.lV r λ p q z=>⟨z.1,z.2.keep k⟩⟩
 | code q pos =>
  obtain⟨ps,e,ht,hc⟩:=h;refine⟨ps,s _ e,ht,?_⟩;rcases hc with hc | ⟨c,o,vs,t,e1,e2,e3⟩
  ·exact .inl hc
  ·exact .inr ⟨c,o,vs,t,e1,k.frz _ _ _ e2,e3⟩
theorem cX.new{K:FG}{H:Hp}{M:MH}{p:Addr}{o:HO}(h:cX K H M)(e:H p=none):cX K (upd H p o) M:=λ a mo q =>
 (h a mo q).keep (Kp.new e) λ u z=>by rw[aB (bI z e)];exact z
theorem cX.put{K:FG}{H:Hp}{M:MH}{p:Addr}{o:HO}{mo:MO}(h:cX K H M)(k:Kp H (upd H p o))(r:afC K (upd H p o) p mo):cX K (upd H p o) (bC M p mo):=λ a mo' q=>by
 by_cases e:a=p
 ·subst e;rw[ao] at q;cases q;exact r
 ·rw[ar e] at q;exact(h a mo' q).keep k λ u z=>by rw[aB e];exact z
structure Abs(K:FG)(H:Hp)(σ:St)(τ:DS)(M:MH):Prop where
 len:σ.length=τ.length
 val:∀ (i:Nat) w,τ[i]? =some (some w)->∃ v,σ[i]? =some (some v)/\aQ K H w v
 mem:cX K H M
theorem Abs.go{K:FG}{H H':Hp}{σ:St}{τ:DS}{M M':MH}(h:Abs K H σ τ M)(k:Kp H H')(m:cX K H' M'):Abs K H' σ τ M':=
 ⟨h.len,λ i w e=>let ⟨v,q,r⟩:=h.val i w e; ⟨v,q,r.keep k⟩,m⟩
theorem Abs.set{K:FG}{H:Hp}{σ:St}{τ:DS}{M:MH}{w:W}{v:V}(h:Abs K H σ τ M)(i:Nat)(r:aQ K H w v):Abs K H (σ.set i (some v)) (τ.set i (some w)) M:=by
 refine⟨by rw[List.length_set,List.length_set];exact h.len,λ j w' e=>?_,h.mem⟩
 by_cases hj:i=j
 ·subst hj;have hl:i<τ.length:=by
   have:=(List.getElem?_eq_some_iff.mp e).1
   rwa[List.length_set] at this
  rw[List.getElem?_set_self hl] at e;cases e;exact⟨v,List.getElem?_set_self (by rw[h.len];exact hl),r⟩
 ·rw[List.getElem?_set_ne hj] at e;obtain⟨v',q,r'⟩:=h.val j w' e;exact⟨v',by rw[List.getElem?_set_ne hj];exact q,r'⟩
abbrev QD:=W->MH->Prop
abbrev TD:=DS->MH->QD->Prop
abbrev TTd:=DS->MH->(Bool->MH->Prop)->Prop
abbrev TAd:=DS->MH->(List W->MH->Prop)->Prop
structure Ed where
 nx:DS->MH->Prop
 rt:QD
 bk:DS->MH->Prop:=λ _ _=>False
 ct:DS->MH->Prop:=λ _ _=>False
abbrev TSd:=Ed->DS->MH->Prop
def up(K:FG)(t:TD):TE:=λ σ H Q=>∃ τ M Qd,Abs K H σ τ M/\t τ M Qd/\∀ v H' w M',Kp H H'->aQ K H' w v->cX K H' M'->Qd w M'->Q v H'
def upT(K:FG)(t:TTd):TT:=λ σ H Q=>∃ τ M Qd,Abs K H σ τ M/\t τ M Qd/\∀ b H' M',Kp H H'->cX K H' M'->Qd b M'->Q b H'
def upA(K:FG)(t:TAd):TA:=λ σ H Q=>∃ τ M Qd,Abs K H σ τ M/\t τ M Qd/\∀ vs H' ws M',Kp H H'->bu K H' ws vs->cX K H' M'->Qd ws M'->Q vs H'
def upS(K:FG)(t:TSd):TS:=λ D σ H=>∃ τ M Dd,Abs K H σ τ M/\t Dd τ M /\
 (∀ σ' H' τ' M',Kp H H'->Abs K H' σ' τ' M'->Dd.nx τ' M'->D.nx σ' H')/\(∀ v H' w M',Kp H H'->aQ K H' w v->cX K H' M'->Dd.rt w M'->D.rt v H') /\
 (∀ σ' H' τ' M',Kp H H'->Abs K H' σ' τ' M'->Dd.bk τ' M'->D.bk σ' H')/\(∀ σ' H' τ' M',Kp H H'->Abs K H' σ' τ' M'->Dd.ct τ' M'->D.ct σ' H')
abbrev PD(X:Cx)(e:Expr)(t:TD):Prop:=PE X e (up X.K t)
abbrev PTd(X:Cx)(e:Expr)(t:TTd):Prop:=PT X e (upT X.K t)
abbrev PAd(X:Cx)(es:List Expr)(t:TAd):Prop:=PA X es (upA X.K t)
abbrev PSd(X:Cx)(st:Stmt)(t:TSd):Prop:=PS X st (upS X.K t)
abbrev pU(X:Cx)(st:List Stmt)(t:TSd):Prop:=PSs X st (upS X.K t)
theorem ie(h:PE X e t)(k:∀ σ H Q,t' σ H Q->t σ H Q):PE X e t':=λ pins s σ H Q I q=>h pins s σ H Q I (k σ H Q q)
theorem aey(h:PT X e t)(k:∀ σ H Q,t' σ H Q->t σ H Q):PT X e t':=λ pins s σ H Q I q=>h pins s σ H Q I (k σ H Q q)
theorem alU(h:PA X es t)(k:∀ σ H Q,t' σ H Q->t σ H Q):PA X es t':=λ pos pins s σ H Q I q=>h pos pins s σ H Q I (k σ H Q q)
theorem wB{st:Stmt}{t t':TS}(h:PS X st t)(k:∀ D σ H,t' D σ H->t D σ H):PS X st t':=λ pins s σ H D I q=>h pins s σ H D I (k D σ H q)
theorem ajW{st:List Stmt}{t t':TS}(h:PSs X st t)(k:∀ D σ H,t' D σ H->t D σ H):PSs X st t':=λ pins s σ H D I q=>h pins s σ H D I (k D σ H q)
end D
namespace D
open L2
section
variable {X:Cx}{pos:Pos}{a b c e:Expr}{ta tb tc te:TD}{K:FG}
abbrev Kont(K:FG)(H:Hp)(Qd:QD)(Q:VK):Prop:=∀ v H' w M',Kp H H'->aQ K H' w v->cX K H' M'->Qd w M'->Q v H'
theorem kgo(k:Kont K H Qd Q)(kp:Kp H H1):Kont K H1 Qd Q:=λ v H' w M' k2 r m q=>k v H' w M' (kp.trans k2) r m q
inductive alM(i:Nat) (τ:DS) (M:MH) (Q:QD):Prop
 | mk (w:W) (z:τ[i]? =some (some w)) (q:Q w M):alM i τ M Q
def aj(i:Nat)(τ:DS)(M:MH)(Q:QD):Prop:=alM i τ M Q
theorem ajS(h:PE X e (amh i)):PD X e (aj i):=ie h λ σ H Q hq37=>by obtain⟨τ,M,Qd,A,⟨w,e,q⟩,k⟩:=hq37;obtain⟨v,e',r⟩:=A.val i w e;exact⟨v,e',k v H w M (Kp.refl H) r A.mem q⟩
def dC(w:W)(_:DS)(M:MH)(Q:QD):Prop:=Q w M
theorem agg(h:PE X e (tC v))(r:∀ H,aQ X.K H w v):PD X e (dC w):=ie h λ σ H Q ⟨τ,M,Qd,A,q,k⟩=>k v H w M (Kp.refl H) (r H) A.mem q
def OpD(K:FG)(r:R2)(rd:W->W->MH->QD->Prop):Prop:=∀ x y H w w' M Qd Q,aQ K H w x->aQ K H w' y->cX K H M->rd w w' M Qd->Kont K H Qd Q->r x y H Q
def dOp(rd:W->W->MH->QD->Prop)(ta tb:TD)(τ:DS)(M:MH)(Q:QD):Prop:=ta τ M λ w M1=>tb τ M1 λ w' M2=>rd w w' M2 Q
theorem xX(hd:OpD K r rd)(h:up K (dOp rd ta tb) σ H Q):tOp r (up K ta) (up K tb) σ H Q:=by obtain⟨τ,M,Qd,A,h,k⟩:=h;refine⟨τ,M,_,A,h,λ x H1 w M1 kp r1 m1 q1=>⟨τ,M1,_,A.go kp m1,q1,λ y H2 w' M2 kp2 r2 m2 q2=>?_⟩⟩;exact hd x y H2 w w' M2 Qd Q (r1.keep kp2) r2 m2 q2 (kgo k (kp.trans kp2))
theorem alf(ho:OpR X (binaryOp op) r)(hd:OpD X.K r rd)(ha:PD X a ta)(hb:PD X b tb):PD X (.BinOp a op b pos) (dOp rd ta tb):=ie (ai0 ho ha hb) λ σ H Q h=>xX hd h
theorem aji(ho:OpR X (compareOp op) r)(hd:OpD X.K r rd)(ha:PD X a ta)(hb:PD X b tb)(hm:behindInMarks op b=false:=by first | exact jY _ (by decide) (by decide) | rfl) :
  PD X (.Compare a [op] [b] pos) (dOp rd ta tb):=ie (ag5 ho ha hb hm) λ σ H Q h=>xX hd h
theorem aly(hr:IxR X r)(hd:OpD X.K r rd)(ha:PD X a ta)(hb:PD X b tb)(hs:vM b:=by intro _ _;rfl):PD X (.Subscript a b pos) (dOp rd ta tb):=ie (akp hr ha hb hs) λ σ H Q h=>xX hd h
def aJ(t:TD)(τ:DS)(M:MH)(Q:Bool->MH->Prop):Prop:=t τ M λ w M1=>∃ k,w=.d (.bool k)/\Q k M1
theorem iW(hi:∀ σ H Q,up K ta σ H Q->t' σ H Q)(h:upT K (aJ ta) σ H Q):agi t' σ H Q:=by obtain⟨τ,M,Qd,A,h,k⟩:=h;refine hi σ H _ ⟨τ,M,_,A,h,λ v H' w M' kp r m hq38=>?_⟩;obtain⟨b,e,q⟩:=hq38;subst e;simp only[aQ,aN] at r;exact⟨b,r,k b H' M' kp m q⟩
theorem aha(ho:OpR X (compareOp op) r)(hd:OpD X.K r rd)(ha:PD X a ta)(hb:PD X b tb)(hm:behindInMarks op b=false:=by first | exact jY _ (by decide) (by decide) | rfl) :
  PTd X (.Compare a [op] [b] pos) (aJ (dOp rd ta tb)):=aey (afS ho ha hb hm) λ σ H Q h=>iW (λ _ _ _ q=>xX hd q) h
theorem agA(h:PD X e te)(he:∀ whole,isTrue e X.env whole=(do let v <- whole;standAt e.pos;holding [v] (truthy v)):=by intro _;rfl):PTd X e (aJ te):=aey (aif h he) λ σ H Q q=>iW (λ _ _ _ z=>z) q
def lT(r r':W->W->MH->QD->Prop)(ta tb tc:TD)(τ:DS)(M:MH)(Q:QD):Prop:=ta τ M λ x M1=>tb τ M1 λ y M2=>r x y M2 λ z M3=>∃ k,z=.d (.bool k)/\(if k=true then tc τ M3 λ w' M4=>r' y w' M4 Q else Q (.d (.bool false)) M3)
theorem ud(hd:OpD K r rd)(hd':OpD K r' rd')(h:up K (lT rd rd' ta tb tc) σ H Q):abI r r' (up K ta) (up K tb) (up K tc) σ H Q:=by
 obtain⟨τ,M,Qd,A,h,k⟩:=h;refine⟨τ,M,_,A,h,λ x H1 w M1 kp r1 m1 q1=>⟨τ,M1,_,A.go kp m1,q1,λ y H2 w' M2 kp2 r2 m2 q2=>?_⟩⟩;have kq:=kp.trans kp2;refine hd x y H2 w w' M2 _ _ (r1.keep kp2) r2 m2 q2 λ v H3 w'' M3 kp3 r3 m3 hq39=>?_;obtain⟨b,e,q3⟩:=hq39;subst e;simp only[aQ,aN] at r3;refine⟨b,r3,?_⟩;have kr:=kq.trans kp3;cases b with
 | false =>
  rw[if_neg ft0] at q3 ⊢;exact k _ H3 _ M3 kr (by simp[aQ,aN]) m3 q3
 | true =>
  rw[if_pos rfl] at q3 ⊢;exact⟨τ,M3,_,A.go kr m3,q3,λ u H4 w4 M4 kp4 r4 m4 q4=>hd' y u H4 w' w4 M4 Qd Q (r2.keep (kp3.trans kp4)) r4 m4 q4 (kgo k (kr.trans kp4))⟩
theorem ads(ho:OpR X (compareOp op) r)(hd:OpD X.K r rd)(ho':OpR X (compareOp op') r')(hd':OpD X.K r' rd')(ha:PD X a ta)(hb:PD X b tb)(hc:PD X c tc)
  (hm:lastMarks [op,op'] [b,c]=false:=by with_unfolding_all rfl):PD X (.Compare a [op,op'] [b,c] pos) (lT rd rd' ta tb tc):=ie (ac7 ho ho' ha hb hc hm) λ σ H Q h=>ud hd hd' h
theorem abV(ho:OpR X (compareOp op) r)(hd:OpD X.K r rd)(ho':OpR X (compareOp op') r')(hd':OpD X.K r' rd')(ha:PD X a ta)(hb:PD X b tb)(hc:PD X c tc)
  (hm:lastMarks [op,op'] [b,c]=false:=by with_unfolding_all rfl):PTd X (.Compare a [op,op'] [b,c] pos) (aJ (lT rd rd' ta tb tc)):=aey (adA ho ho' ha hb hc hm) λ σ H Q h=>iW (λ _ _ _ q=>ud hd hd' q) h
variable {tA tB:TTd}{rest:List Expr}
def vC(t u:TTd)(τ:DS)(M:MH)(Q:Bool->MH->Prop):Prop:=t τ M λ k M1=>if k=true then u τ M1 Q else Q false M1
def dOr(t u:TTd)(τ:DS)(M:MH)(Q:Bool->MH->Prop):Prop:=t τ M λ k M1=>if k=true then Q true M1 else u τ M1 Q
def wg(t:TTd)(τ:DS)(M:MH)(Q:Bool->MH->Prop):Prop:=t τ M λ k M1=>Q (!k) M1
abbrev PWd(X:Cx)(e:Expr)(t:TTd):Prop:=PW X e (upT X.K t)
theorem pw_w(h:PW X e t)(k:∀ σ H Q,t' σ H Q->t σ H Q):PW X e t':=λ w pins s σ H Q I q=>h w pins s σ H Q I (k σ H Q q)
theorem acV(ha:PTd X a tA):PWd X (.BoolOp .And [a] pos) tA:=pw_and1 ha
theorem ags(ha:PTd X a tA):PWd X (.BoolOp .Or [a] pos) tA:=pw_or1 ha
theorem af1(ha:PTd X a tA)(hb:PWd X (.BoolOp .And (b::rest) pos) tB):PWd X (.BoolOp .And (a::b::rest) pos) (vC tA tB):=pw_w (pw_and ha hb) λ σ H Q h=>by
 obtain⟨τ,M,Qd,A,h,k⟩:=h;refine⟨τ,M,_,A,h,λ b H1 M1 kp m1 q1=>?_⟩;cases b with
 | true=>rw[if_pos rfl] at q1 ⊢;exact⟨τ,M1,Qd,A.go kp m1,q1,λ b H2 M2 kp2 m2 q2=>k b H2 M2 (kp.trans kp2) m2 q2⟩
 | false=>rw[if_neg ft0] at q1 ⊢;exact k _ H1 M1 kp m1 q1
theorem ajO(ha:PTd X a tA)(hb:PWd X (.BoolOp .Or (b::rest) pos) tB):PWd X (.BoolOp .Or (a::b::rest) pos) (dOr tA tB):=pw_w (pw_or ha hb) λ σ H Q h=>by
 obtain⟨τ,M,Qd,A,h,k⟩:=h;refine⟨τ,M,_,A,h,λ b H1 M1 kp m1 q1=>?_⟩;cases b with
 | false=>rw[if_neg ft0] at q1 ⊢;exact⟨τ,M1,Qd,A.go kp m1,q1,λ b H2 M2 kp2 m2 q2=>k b H2 M2 (kp.trans kp2) m2 q2⟩
 | true=>rw[if_pos rfl] at q1 ⊢;exact k _ H1 M1 kp m1 q1
theorem alm(h:PWd X e tA):PTd X e tA:=h.pt
theorem agd(ha:PTd X a tA):PTd X (.UnaryOp .Not a pos) (wg tA):=aey (aiF ha) λ σ H Q h=>by obtain⟨τ,M,Qd,A,h,k⟩:=h;exact⟨τ,M,_,A,h,λ b H1 M1 kp m1 q1=>k (!b) H1 M1 kp m1 q1⟩
def abk(ta tb:TD)(τ:DS)(M:MH)(Q:QD):Prop:=ta τ M λ x M1=>∃ k,x=.d (.bool k)/\if k=true then tb τ M1 Q else Q (.d (.bool false)) M1
def aln(ta tb:TD)(τ:DS)(M:MH)(Q:QD):Prop:=ta τ M λ x M1=>∃ k,x=.d (.bool k)/\if k=true then Q (.d (.bool true)) M1 else tb τ M1 Q
def afL(ta:TD)(τ:DS)(M:MH)(Q:QD):Prop:=ta τ M λ x M1=>∃ k,x=.d (.bool k)/\Q (.d (.bool (!k))) M1
theorem ajL{op}(h:PD X a ta):PD X (.BoolOp op [a] pos) ta:=ajf h
theorem aiz(ha:PD X a ta)(hb:PD X (.BoolOp .And (b::rest) pos) tb):PD X (.BoolOp .And (a::b::rest) pos) (abk ta tb):=ie (ajq ha hb) λ σ H Q h=>by
 obtain⟨τ,M,Qd,A,h,k⟩:=h;refine⟨τ,M,_,A,h,λ x H1 w M1 kp r1 m1 hq40=>?_⟩;obtain⟨b,e,q1⟩:=hq40;subst e;simp only[aQ,aN] at r1;refine⟨b,r1,?_⟩;cases b with
 | true=>rw[if_pos rfl] at q1 ⊢;exact⟨τ,M1,Qd,A.go kp m1,q1,kgo k kp⟩
 | false=>rw[if_neg ft0] at q1 ⊢;exact k _ H1 _ M1 kp (by simp[aQ,aN]) m1 q1
theorem als(ha:PD X a ta)(hb:PD X (.BoolOp .Or (b::rest) pos) tb):PD X (.BoolOp .Or (a::b::rest) pos) (aln ta tb):=ie (akN ha hb) λ σ H Q h=>by
 obtain⟨τ,M,Qd,A,h,k⟩:=h;refine⟨τ,M,_,A,h,λ x H1 w M1 kp r1 m1 hq41=>?_⟩;obtain⟨b,e,q1⟩:=hq41;subst e;simp only[aQ,aN] at r1;refine⟨b,r1,?_⟩;cases b with
 | false=>rw[if_neg ft0] at q1 ⊢;exact⟨τ,M1,Qd,A.go kp m1,q1,kgo k kp⟩
 | true=>rw[if_pos rfl] at q1 ⊢;exact k _ H1 _ M1 kp (by simp[aQ,aN]) m1 q1
theorem aiV(ha:PD X a ta):PD X (.UnaryOp .Not a pos) (afL ta):=ie (ai2 ha) λ σ H Q h=>by obtain⟨τ,M,Qd,A,h,k⟩:=h;refine⟨τ,M,_,A,h,λ x H1 w M1 kp r1 m1 hq42=>?_⟩;obtain⟨b,e,q1⟩:=hq42;subst e;simp only[aQ,aN] at r1;exact⟨b,r1,k _ H1 _ M1 kp (by simp[aQ,aN]) m1 q1⟩
variable {es:List Expr}{t:TAd}
def aI(_:DS)(M:MH)(Q:List W->MH->Prop):Prop:=Q [] M
def ah(ta:TD)(tr:TAd)(τ:DS)(M:MH)(Q:List W->MH->Prop):Prop:=ta τ M λ w M1=>tr τ M1 λ ws M2=>Q (w::ws) M2
theorem mN:PAd X [] aI:=alU aav λ σ H Q ⟨τ,M,Qd,A,h,k⟩=>k [] H [] M (Kp.refl H) .nil A.mem h
theorem ad5(ha:PD X e te)(hr:PAd X es t)(hs:starEach (e::es) X.env=(false,eval e X.env)::starEach es X.env:=by rfl):PAd X (e::es) (ah te t):=alU (rF ha hr hs) λ σ H Q h=>by obtain⟨τ,M,Qd,A,h,k⟩:=h;exact⟨τ,M,_,A,h,λ x H1 w M1 kp r1 m1 q1=>⟨τ,M1,_,A.go kp m1,q1,λ xs H2 ws M2 kp2 r2 m2 q2=>k _ H2 _ M2 (kp.trans kp2) (.cons (r1.keep kp2) r2) m2 q2⟩⟩
def sg:List W->Option (List PyData)
 | []=>some []
 | .d x::r=>(sg r).map (x::·)
 | _::_=>none
theorem sh:∀ {ws:List W} {ds:List PyData},sg ws=some ds->ws=ds.map W.d
 | [],ds,h=>by simp only[sg] at h;cases h;rfl
 | .d x::r,ds,h=>by
  simp only[sg] at h;cases q:sg r with
  | none=>rw[q] at h;cases h
  | some l=>rw[q] at h;cases h;rw[sh q];rfl
 | .m _::_,ds,h=>by simp[sg] at h
 | .t _::_,ds,h=>by simp[sg] at h
def jF(t:TAd)(τ:DS)(M:MH)(Q:QD):Prop:=t τ M λ ws M1=>∃ ds,sg ws=some ds/\ds.length<=sizeLine/\Q (.d (.list ds)) M1
theorem afx(hp:H p=none)(r:bJ K H ds vs):aN K (upd H p (.frz o (.lst vs))) (.list ds) (.ref p):=by simp only[aN];exact⟨p,vs,rfl,.inl ⟨o,aA⟩,r.keep (Kp.new hp)⟩
theorem rK(hp:H p=none)(r:bJ K H ds vs)(m:cX K H M)(q:Qd (.d (.list ds)) M)(k:Kont K H Qd Q) :
  ∃ p' u,V.ref p=.ref p'/\(upd H p (.lst vs)) p'=some u/\Fz u/\∀ o,Q (.ref p) (upd (upd H p (.lst vs)) p' (.frz o u)):=by
 refine⟨p,_,rfl,aA,trivial,λ o=>?_⟩;rw[ab0];exact k _ _ (.d (.list ds)) M (Kp.new hp) (afx hp r) (m.new hp) q
theorem ai1(h:PAd X es t):PD X (.List es pos) (jF t):=ie (ub (ae0 h)) λ σ H Q h=>by obtain⟨τ,M,Qd,A,h,k⟩:=h;refine⟨τ,M,_,A,h,λ vs H1 ws M1 kp r1 m1 hq43=>?_⟩;obtain⟨ds,e,hz,q1⟩:=hq43;have e':=sh e;subst e';have rA:=r1.data;exact⟨by rw[rA.length];exact hz,λ p hp=>rK hp rA m1 q1 (kgo k kp)⟩
def fX(t:TAd)(τ:DS)(M:MH)(Q:QD):Prop:=t τ M λ ws M1=>ws.length<=sizeLine/\∀ p,M1 p=none->Q (.m p) (bC M1 p (.lst ws))
theorem afi(h:PAd X es t):PD X (.List es pos) (fX t):=ie (ae0 h) λ σ H Q h=>by obtain⟨τ,M,Qd,A,h,k⟩:=h;refine⟨τ,M,_,A,h,λ vs H1 ws M1 kp r1 m1 ⟨hz,q1⟩=>⟨by rw[<- r1.length];exact hz,λ p hp=>?_⟩⟩;exact k _ _ (.m p) (bC M1 p (.lst ws)) (kp.trans (Kp.new hp)) rfl (m1.put (mo:=.lst ws) (Kp.new hp) ⟨vs,aA,r1.keep (Kp.new hp)⟩) (q1 p (m1.free hp))
def eo(t:TAd)(τ:DS)(M:MH)(Q:QD):Prop:=t τ M λ ws M1=>∃ ds,sg ws=some ds/\ds.length<=sizeLine/\Q (.d (.tuple ds)) M1
theorem ah0{x1}(h:PAd X es t):PD X (.Tuple es x1 pos) (eo t):=ie (aex h) λ σ H Q h=>by obtain⟨τ,M,Qd,A,h,k⟩:=h;refine⟨τ,M,_,A,h,λ vs H1 ws M1 kp r1 m1 hq44=>?_⟩;obtain⟨ds,e,hz,q1⟩:=hq44;have e':=sh e;subst e';have rA:=r1.data;refine⟨by rw[rA.length];exact hz,λ p hp=>k _ _ (.d (.tuple ds)) M1 (kp.trans (Kp.new hp)) ?_ (m1.new hp) q1⟩;simp only[aQ,aN];exact⟨p,vs,rfl,.inl (.inl aA),rA.keep (Kp.new hp)⟩
variable {x:Str}{p:Pos}{id T:String}{r:List V->Hp->VK->Prop}{rd:List W->MH->QD->Prop}
def iz(K:FG)(r:List V->Hp->VK->Prop)(rd:List W->MH->QD->Prop):Prop:=∀ vs H ws M Qd Q,bu K H ws vs->cX K H M->rd ws M Qd->Kont K H Qd Q->r vs H Q
def dCB(rd:List W->MH->QD->Prop)(t:TAd)(τ:DS)(M:MH)(Q:QD):Prop:=t τ M λ ws M1=>rd ws M1 Q
theorem aeG(hd:iz K r rd)(h:up K (dCB rd t) σ H Q):tCB r (upA K t) σ H Q:=by obtain⟨τ,M,Qd,A,h,k⟩:=h;exact⟨τ,M,_,A,h,λ vs H1 ws M1 kp r1 m1 q1=>hd vs H1 ws M1 Qd Q r1 m1 q1 (kgo k kp)⟩
theorem acR(hc:fZ X (.builtin id) r)(hd:iz X.K r rd)(hg:Gl X x)(hm:X.mg x=none)(hv:bootBuiltins x=some (.builtin id))(ha:PAd X (e::es) t)(hn:x ≠ "__name__":= by decide)(hdb:ND x:=by decide)
  (he:starEach (e::es) X.env=(false,eval e X.env)::starEach es X.env:=by rfl)(hpl:(backTo pos (starEach es X.env)).any (·.1)=false:=by rfl):PD X (.Call (.Name x p) (e::es) [] pos) (dCB rd t):=
 ie (rJ hc hg hm hv ha hn hdb he hpl) λ σ H Q h=>aeG hd h
theorem aae(hc:fZ X (.type T) r)(hd:iz X.K r rd)(hg:Gl X x)(hm:X.mg x=none)(hv:bootBuiltins x=some (.type T))(ha:PAd X (e::es) t)(hn:x ≠ "__name__":= by decide)(hdb:ND x:=by decide)
  (he:starEach (e::es) X.env=(false,eval e X.env)::starEach es X.env:=by rfl)(hpl:(backTo pos (starEach es X.env)).any (·.1)=false:=by rfl):PD X (.Call (.Name x p) (e::es) [] pos) (dCB rd t):=
 ie (aaC hc hg hm hv ha hn hdb he hpl) λ σ H Q h=>aeG hd h
end
section
variable {X:Cx}{pos:Pos}{st:Stmt}{sts:List Stmt}{t u:TSd}{e:Expr}{te:TD}{K:FG}
def bx(D:Ed)(τ:DS)(M:MH):Prop:=D.nx τ M
def bA(t u:TSd)(D:Ed)(τ:DS)(M:MH):Prop:=t {D with nx:=u D} τ M
theorem abh(h1:PSd X st t)(h2:pU X sts u):pU X (st::sts) (bA t u):=ajW (aea h1 h2) λ D σ H ⟨τ,M,Dd,A,h,k1,k2,k3,k4⟩ =>
 ⟨τ,M,{Dd with nx:=u Dd},A,h,λ σ' H' τ' M' kp A' q=>⟨τ',M',Dd,A',q,λ σ2 H2 τ2 M2 kp2=>k1 σ2 H2 τ2 M2 (kp.trans kp2),λ v H2 w M2 kp2=>k2 v H2 w M2 (kp.trans kp2),λ σ2 H2 τ2 M2 kp2=>k3 σ2 H2 τ2 M2 (kp.trans kp2),λ σ2 H2 τ2 M2 kp2=>k4 σ2 H2 τ2 M2 (kp.trans kp2)⟩,k2,k3,k4⟩
theorem acE(h1:PSd X st t):pU X [st] t:=zN h1
def eL(te:TD)(D:Ed)(τ:DS)(M:MH):Prop:=te τ M λ _ M1=>D.nx τ M1
theorem acT(he:PD X e te)(hs:swapsWith e none pos.line X.env=pure false:=by rfl):PSd X (.Expr e pos) (eL te):=wB (af3 he hs) λ D σ H ⟨τ,M,Dd,A,h,k1,_⟩ =>
 ⟨τ,M,_,A,h,λ v H1 w M1 kp r m q=>k1 σ H1 τ M1 kp (A.go kp m) q⟩
def cF(te:TD)(D:Ed)(τ:DS)(M:MH):Prop:=te τ M D.rt
theorem agq(he:PD X e te):PSd X (.Return (some e) pos) (cF te):=wB (ai7 he) λ D σ H ⟨τ,M,Dd,A,h,k1,k2,_⟩=>⟨τ,M,_,A,h,λ v H1 w M1 kp r m q=>k2 v H1 w M1 kp r m q⟩
def ahj(D:Ed)(_:DS)(M:MH):Prop:=D.rt (.d .none) M
def dIf(c:TTd)(t u:TSd)(D:Ed)(τ:DS)(M:MH):Prop:=c τ M λ b M1=>if b=true then t D τ M1 else u D τ M1
theorem ahL(hc:PTd X c tc)(ha:pU X a t)(hb:pU X b u):PSd X (.If c a b pos) (dIf tc t u):=wB (ak5 hc ha hb) λ D σ H hq45=>by
 obtain⟨τ,M,Dd,A,h,k1,k2,k3,k4⟩:=hq45;refine⟨τ,M,_,A,h,λ b H1 M1 kp m q=>?_⟩;have go:∀ {t':TSd},t' Dd τ M1->upS X.K t' D σ H1:=λ {t'} q=>⟨τ,M1,Dd,A.go kp m,q,λ σ2 H2 τ2 M2 kp2=>k1 σ2 H2 τ2 M2 (kp.trans kp2),λ v H2 w M2 kp2=>k2 v H2 w M2 (kp.trans kp2),λ σ2 H2 τ2 M2 kp2=>k3 σ2 H2 τ2 M2 (kp.trans kp2),λ σ2 H2 τ2 M2 kp2=>k4 σ2 H2 τ2 M2 (kp.trans kp2)⟩;cases b with
 | true=>rw[if_pos rfl] at q;show(if true=true then upS X.K t D σ H1 else upS X.K u D σ H1);rw[if_pos rfl];exact go q
 | false=>rw[if_neg ft0] at q;show(if false=true then upS X.K t D σ H1 else upS X.K u D σ H1);rw[if_neg ft0];exact go q
abbrev TGd:=W->DS->MH->(DS->MH->Prop)->Prop
def upG(K:FG)(g:TGd):TG:=λ v σ H Q=>∃ w τ M Qd,aQ K H w v/\Abs K H σ τ M/\g w τ M Qd/\∀ σ' H' τ' M',Kp H H'->Abs K H' σ' τ' M'->Qd τ' M'->Q σ' H'
abbrev PGd(X:Cx)(e:Expr)(g:TGd):Prop:=PG X e (upG X.K g)
theorem akk(h:PG X e g)(k:∀ v σ H Q,g' v σ H Q->g v σ H Q):PG X e g':=λ pins s σ H v u Q I r q=>h pins s σ H v u Q I r (k v σ H Q q)
def gN(i:Nat)(w:W)(τ:DS)(M:MH)(Q:DS->MH->Prop):Prop:=Q (τ.set i (some w)) M
def dU(te:TD)(g:TGd)(D:Ed)(τ:DS)(M:MH):Prop:=te τ M λ w M1=>g w τ M1 D.nx
theorem ag6(h:upS K (dU te g) D σ H):akd (up K te) (upG K g) D σ H:=by obtain⟨τ,M,Dd,A,h,k1,_⟩:=h;exact⟨τ,M,_,A,h,λ v H1 w M1 kp r m q=>⟨w,τ,M1,_,r,A.go kp m,q,λ σ2 H2 τ2 M2 kp2 A2 q2=>k1 σ2 H2 τ2 M2 (kp.trans kp2) A2 q2⟩⟩
theorem ae8(he:PD X e te)(hg:PGd X tg g)(hs:swapsWithSole [tg] e pos.line X.env=pure false:=by rfl)(hw:swappedStores [tg] e X.env=pure none:=by rfl)
  (h1:(assignEach [tg] X.env).map (·.2)=[assign tg X.env]:=by rfl):PSd X (.Assign [tg] e pos) (dU te g):=wB (ae1 he hg hs hw h1) λ D σ H h=>ag6 h
theorem ag4(hN:X.N.Nodup)(hi:X.N[i]? =some x)(hx:Loc X.env.scope x)(he:PD X e te)(hs:swapsWith e (some (.Name x pos')) pos.line X.env=pure false:=by rfl)(hf:X.fn x=true\/X.env.scope.names.lookup x=some .local:=by first | exact .inl rfl | exact .inr rfl | assumption) :
  PSd X (.Assign [.Name x pos'] e pos) (dU te (gN i)):=wB (ah1 hN hi hx he hs hf) λ D σ H ⟨τ,M,Dd,A,h,k1,_⟩ =>
 ⟨τ,M,_,A,h,λ v H1 w M1 kp r m q=>k1 _ H1 _ M1 kp ((A.go kp m).set i r) q⟩
end
abbrev SpD:=List W->MH->QD->Prop
def dH(K:FG)(sp:SpD):Sp:=λ vs H Q _=>∃ ws M Qd,bu K H ws vs/\cX K H M/\sp ws M Qd/\Kont K H Qd Q
def bH(sp:SpD)(t:TAd)(τ:DS)(M:MH)(Q:QD):Prop:=t τ M λ ws M1=>sp ws M1 Q
theorem agl(F:bK X.prog X.w X.K X.mg X.base CX0 k f fd ps (dH X.K sp))(hr:eO k X.A)(hg:Gl X x)(hm:X.mg x=some (.ref f))(hk:W.keepIn X.K (.ref f)=true)(hb:Binds X.K fd ps [])
  (ha:PAd X (e::es) t)(hdb:ND x:=by decide)(he:starEach (e::es) X.env=(false,eval e X.env)::starEach es X.env:=by rfl)(hpl:(backTo pos (starEach es X.env)).any (·.1)=false:=by rfl) :
  PD X (.Call (.Name x p) (e::es) [] pos) (bH sp t):=ie (agM (E:=E0) (dvs:=[]) F hr hg hm hk hb .nil aa6 ha hdb he hpl) λ σ H Q h=>by
 obtain⟨τ,M,Qd,A,h,k⟩:=h;exact⟨τ,M,_,A,h,λ vs H1 ws M1 kp r1 m1 q1=>⟨ws,M1,Qd,by rw[List.append_nil];exact r1,m1,q1,kgo k kp⟩⟩
def gA(N:List Str)(ws:List W):DS:=ws.map some++List.replicate (N.length-ws.length) none
section
variable {P:Program}{w:World}{K:FG}{mg:Str->Option Value}{base:Heap}
theorem nD(r:bu K H ws vs)(m:cX K H M):Abs K H (start N vs) (gA N ws) M:=by
 have hl:=r.length;refine⟨?_,λ i w e=>?_,m⟩
 ·simp[L2.start,gA,hl]
 ·unfold gA at e
  by_cases hi:i<ws.length
  ·rw[List.getElem?_append_left (by simpa using hi),List.getElem?_map] at e;cases q:ws[i]? with
   | none=>rw[q] at e;cases e
   | some w' =>
    rw[q] at e;cases e;obtain⟨v,e1,r1⟩:=r.get q;refine⟨v,?_,r1⟩;unfold L2.start;rw[List.getElem?_append_left (by rw[lm,<- hl];exact hi),List.getElem?_map,e1];rfl
  ·rw[List.getElem?_append_right (by simpa using hi),List.getElem?_replicate] at e
   split at e<;>cases e
theorem bN{x qual:Str}{st:Stmt}{N ps:List Str}{k:Nat}{sp:SpD}{t:TSd}(F:Fun K x qual st f fd)(S:aL N ps (ak st))(len:∀ ws M Q,sp ws M Q->ws.length=ps.length)
  (hbody:∀ (cdv:Value) (A:Around) (outer:List Env) (s:Shared) (H:Hp) (E:XK),eO k (A.deeper (envOfC qual (ak st) s.heap.objs.size f cdv)) ->
   pU (vD CX0 P w K mg base N qual (ak st) f cdv A outer s H E).nox (aY st) t)
  (read:∀ ws M Q,sp ws M Q->t {nx:=λ _ M'=>Q (.d .none) M',rt:=Q} (gA N ws) M):bK P w K mg base CX0 (k+1) f fd ps (dH K sp):=by
 refine F.ok S (λ vs H Q E h=>?_) (λ cdv A outer s H vs Q E hr h=>?_)
 ·obtain⟨ws,M,Qd,r,_,q,_⟩:=h;rw[<- r.length];exact len _ _ _ q
 ·obtain⟨ws,M,Qd,r,m,q,kk⟩:=h;refine⟨_,hbody cdv A outer s H E hr,gA N ws,M,_,nD r m,read ws M Qd q,λ σ' H' τ' M' kp A' q'=>?_,λ v H' w' M' kp r' m' q'=>?_,λ σ' H' τ' M' kp A' q'=>q'.elim,λ σ' H' τ' M' kp A' q'=>q'.elim⟩
  ·exact kk _ H' _ M' kp (by simp[aQ,aN]) A'.mem q'
  ·exact kk v H' w' M' kp r' m' q'
end
end D
namespace L2
structure d4(k:Nat)(A:Around):Prop where
 gd:A.guards=some []
 dp:A.depth+3 * k+5<recursionLimit
 un:A.units+16 * k+200<cLine
theorem d4.mono(r:d4 k A)(h:j<=k):d4 j A:=⟨r.gd,by have:=r.dp;omega,by have:=r.un;omega⟩
theorem d4.deeper(r:d4 (k+1) A)(env:Env):d4 k (A.deeper env):=
 ⟨r.gd,by have:=r.dp;show A.depth+1+3 * k+5<_;omega,by have:=r.un;show A.units+3+16 * k+200<_;omega⟩
theorem d4.depth(r:d4 k A):A.depth<recursionLimit:=by have:=r.dp;omega
theorem d4.units(r:d4 k A):A.units+64<cLine:=by have:=r.un;omega
theorem eO.h(r:eO k A):d4 k A:=⟨r.gd,r.dp,r.un⟩
theorem d4.mark(r:d4 k A)(v:Value):d4 k (A.mark (some v)):=⟨r.gd,r.dp,r.un⟩
end L2
namespace D
open L2
mutual
theorem eP(I:Inv X pins σ H s):∀ (d:PyData) {x:V} {u:Value},aN X.K H d x->RelV x u->d.hasDict=false->∃ as,Reads s.heap u d as
 | .none,x,u,h,r,_=>by simp only[aN] at h;subst h;cases (show u=Value.none from r);exact⟨_,.none⟩
 | .bool b,x,u,h,r,_=>by simp only[aN] at h;subst h;cases (show u=Value.bool b from r);exact⟨_,.bool b⟩
 | .int i,x,u,h,r,_=>by simp only[aN] at h;subst h;obtain⟨t,e⟩:=(show ∃ t,u=Value.int i t from r);subst e;exact⟨_,.int i t⟩
 | .str z,x,u,h,r,_=>by simp only[aN] at h;subst h;obtain⟨t,e⟩:=(show ∃ t,u=Value.str z t from r);subst e;exact⟨_,.str z t⟩
 | .list ds,x,u,h,r,hd=>by simp only[aN] at h;obtain⟨a,vs,e,hs,ra⟩:=h;subst e;cases (show u=Value.ref a from r);obtain⟨its,rv,⟨o,n,e1,e2,e3,e4⟩,hz⟩:=I.list hs.sq;obtain⟨as,q⟩:=nj I ds ra rv (by simpa [PyData.hasDict] using hd);exact⟨_,.list e1 e2 e4 (by simpa using q)⟩
 | .tuple ds,x,u,h,r,hd=>by simp only[aN] at h;obtain⟨a,vs,e,hs,ra⟩:=h;subst e;cases (show u=Value.ref a from r);obtain⟨its,rv,⟨o,e1,e2,n,e4⟩,hz⟩:=I.tuple hs;obtain⟨as,q⟩:=nj I ds ra rv (by simpa [PyData.hasDict] using hd);exact⟨_,.tuple e1 e2 e4 (by simpa using q)⟩
 | .dict kvs,x,u,h,r,hd=>by simp[PyData.hasDict] at hd
theorem nj(I:Inv X pins σ H s):∀ (ds:List PyData) {xs:List V} {us:List Value},bJ X.K H ds xs->Vals xs us->PyData.hasDictAll ds=false->∃ as,ReadsAll s.heap us ds as
 | [],xs,us,h,r,_=>by simp only[bJ] at h;subst h;cases r;exact⟨_,.nil⟩
 | d::ds,xs,us,h,r,hd=>by
  simp only[bJ] at h;obtain⟨v,vr,e,h1,h2⟩:=h;subst e;simp only[PyData.hasDictAll,Bool.or_eq_false_iff] at hd;cases r with
  | cons r1 r2 =>
   obtain⟨as,q1⟩:=eP I d h1 r1 hd.1;obtain⟨bs,q2⟩:=nj I ds h2 r2 hd.2;exact⟨_,.cons q1 q2⟩
end
def ahb:PyData->Bool
 | .none | .bool _ | .int _ | .str _=>true
 | _=>false
theorem zg:∀ {d:PyData} {x:V} {u:Value} {h:Heap} {K:FG} {H:Hp},ahb d=true->aN K H d x->RelV x u->Reads h u d []
 | .none,x,u,h,K,H,_,e,r=>by simp only[aN] at e;subst e;cases (show u=Value.none from r);exact .none
 | .bool b,x,u,h,K,H,_,e,r=>by simp only[aN] at e;subst e;cases (show u=Value.bool b from r);exact .bool b
 | .int i,x,u,h,K,H,_,e,r=>by simp only[aN] at e;subst e;obtain⟨t,z⟩:=(show ∃ t,u=Value.int i t from r);subst z;exact .int i t
 | .str i,x,u,h,K,H,_,e,r=>by simp only[aN] at e;subst e;obtain⟨t,z⟩:=(show ∃ t,u=Value.str i t from r);subst z;exact .str i t
 | .list _,_,_,_,_,_,f,_,_=>nomatch f
 | .tuple _,_,_,_,_,_,f,_,_=>nomatch f
 | .dict _,_,_,_,_,_,f,_,_=>nomatch f
theorem mX{P:Program}{w:World}{h:Heap}{K:FG}{H:Hp}:∀ {kvs:List (PyData×PyData)} {l:List (Key×V)} {vs:List (Key×Value)} {es:List DictEntry},(kvs.all λ p=>ahb p.2)=true->l4 K H kvs l->KV l vs->Pairs (bt P w) es vs ->
  ReadsAll h (es.map (·.key)) (kvs.map (·.1)) []/\ReadsAll h (es.map (·.val)) (kvs.map (·.2)) []
 | [],l,vs,es,_,r,kv,p=>by simp only[l4] at r;subst r;cases kv;cases p;exact⟨.nil,.nil⟩
 | (k,d)::kvs,l,vs,es,f,r,kv,p=>by
  simp only[l4] at r;obtain⟨key,v,lr,e,ek,r1,r2⟩:=r;subst e;rw[List.all_cons,ae00] at f;cases kv with
  | cons q1 q2 =>
   rename_i kv0 vs0
   obtain⟨k0,u0⟩:=kv0;obtain⟨q1,q3⟩:=q1;cases p with
   | cons p1 p2 p3 =>
    rename_i en es0
    obtain⟨i1,i2⟩:=mX f.2 r2 q2 p3;have rk:Reads h en.key k []:=by
     have hk:pT k0 en.key=true:=p1;have hk0:key=k0:=q1;subst hk0;rw[ek];rcases cq hk with ⟨i,t,z1,z2⟩ | ⟨i,t,z1,z2⟩
     ·subst z1;rw[z2];exact .int i t
     ·subst z1;rw[z2];exact .str i t
    have rv:Reads h en.val d []:=by rw[p2];exact zg f.1 r1 q3
    exact⟨.cons rk i1,.cons rv i2⟩
def eI(d:PyData):Bool:=d.showable&&decide (d.shown.length<=sizeLine)&&decide (d.depth<=60)&&(!d.hasDict || match d with
 | .dict kvs=>kvs.all λ p=>ahb p.2
 | _=>false)
theorem qf(I:Inv X pins σ H s){d:PyData}{x:V}{u:Value}(h:aN X.K H d x)(r:RelV x u)(ok:eI d=true):∃ as,Reads s.heap u d as/\(d.hasDict=true->sysModules ∉ as):=by
 simp only[eI,ae00,Bool.or_eq_true] at ok;cases hd:d.hasDict with
 | false =>
  obtain⟨as,q⟩:=eP I d h r hd;exact⟨as,q,λ z=>absurd z (by simp)⟩
 | true =>
  have f:=ok.2.resolve_left (by simp[hd]);cases d with
  | dict kvs =>
   simp only[aN] at h;obtain⟨a,o,l,e,ha,rk⟩:=h;subst e;cases (show u=Value.ref a from r);obtain⟨z,hs,vs,kv,o',es,ep,e1,e2,e3,e4,e5,e6⟩:=yF I.hok (.inr ⟨o,ha⟩);obtain⟨q1,q2⟩:=mX (h:=s.heap) f rk kv e5;refine⟨_,.dict e1 e2.1 e3 q1 q2,λ _ hm=>?_⟩;simp only[List.append_nil] at hm;have hm':sysModules=a:=by simpa using hm
   rw[<- hm'] at hs;simp at hs
  | _=>exact absurd f (by simp)
def wc(d:PyData):Bool:=SeqAt.shaped d&&!d.hasDict
def iy:PyData->PyData->Bool
 | .str _,.str _=>true
 | d,d'=>wc d&&wc d'
theorem gS(h:iy d d'=true):(∃ x y,d=.str x/\d'=.str y)\/(wc d=true/\wc d'=true):=by
 cases d with
 | str x =>
  cases d' with
  | str y=>exact .inl ⟨x,y,rfl,rfl⟩
  | _=>exact .inr (by simpa [iy] using h)
 | _=>exact .inr (by simpa [iy] using h)
theorem wq(x y:Str):decide (V.str x=V.str y)=PyData.eqv (.str x) (.str y):=by
 rw[PyData.eqv]
 by_cases e:x=y
 ·subst e;simp
 ·rw[decide_eq_false (λ z=>e (V.str.inj z))];exact(beq_eq_false_iff_ne.mpr e).symm
theorem aeR(hr:d4 k X.A):OpR X (compareOp .Eq) (λ x y H Q=>∃ d d',aN X.K H d x/\aN X.K H d' y/\iy d d'=true/\Q (.bl (PyData.eqv d d')) H):=by
 intro pins s σ H x y v u Q I rx ry h;obtain⟨d,d',h1,h2,o,q⟩:=h;rcases gS o with ⟨a,b,e1,e2⟩ | ⟨o1,o2⟩
 ·subst e1;subst e2;simp only[aN] at h1 h2;subst h1;subst h2;exact akv pins s σ H _ _ v u Q I rx ry ⟨rfl,by rw[wq];exact q⟩
 simp only[wc,ae00,Bool.not_eq_true'] at o1 o2;obtain⟨as,r1⟩:=eP I d h1 rx o1.2;obtain⟨bs,r2⟩:=eP I d' h2 ry o2.2;exact eq_dataH r1 r2 o1.1 o2.1 hr.units ⟨.bl _,H,I,rfl,q⟩
theorem aiy(hr:d4 k X.A):OpR X (compareOp .NotEq) (λ x y H Q=>∃ d d',aN X.K H d x/\aN X.K H d' y/\iy d d'=true/\Q (.bl (!PyData.eqv d d')) H):=by
 intro pins s σ H x y v u Q I rx ry h;obtain⟨d,d',h1,h2,o,q⟩:=h;rcases gS o with ⟨a,b,e1,e2⟩ | ⟨o1,o2⟩
 ·subst e1;subst e2;simp only[aN] at h1 h2;subst h1;subst h2;exact akO pins s σ H _ _ v u Q I rx ry ⟨rfl,by rw[wq];exact q⟩
 simp only[wc,ae00,Bool.not_eq_true'] at o1 o2;obtain⟨as,r1⟩:=eP I d h1 rx o1.2;obtain⟨bs,r2⟩:=eP I d' h2 ry o2.2;exact ne_dataH r1 r2 o1.1 o2.1 hr.units ⟨.bl _,H,I,rfl,q⟩
def tyD:PyData->String
 | .none => "NoneType"
 | .bool _ => "bool"
 | .int _ => "int"
 | .str _ => "str"
 | .list _ => "list"
 | .tuple _ => "tuple"
 | .dict _ => "dict"
inductive Ty6:String->Prop where
 | int:Ty6 "int" | bool:Ty6 "bool" | str:Ty6 "str" | list:Ty6 "list" | tuple:Ty6 "tuple" | dict:Ty6 "dict"
def vo(d:PyData)(T:String):Bool:=tyD d==T || (T == "int" && tyD d == "bool")
theorem abL{K:FG}(d:PyData){T:String}(h:Ty6 T):W.kitOne K (.type (tyD d)) (.type T)=some (vo d T):=by
 cases h<;>cases d<;>rfl
theorem acb:fZ X (.builtin "isinstance") (λ xs H Q=>∃ x d T,xs=[x,.ty T]/\aN X.K H d x/\Ty6 T/\Q (.bl (vo d T)) H):=by
 intro pins s σ H xs us Q I r h;obtain⟨x,d,T,rfl,rd,h6,q⟩:=h;obtain⟨u,w',rfl,rx,ry⟩:=vals2 r;cases (show w'=Value.type T from ry);have e:=abL (K:=X.K) d h6;have fin:∀ tk,EP X pins σ Q (.bool (vo d T)) {s with toks:=tk}:=λ tk=>⟨.bl _,H,I.tok _,rfl,q⟩;generalize vo d T=b at e fin;cases d with
 | none=>simp only[aN] at rd;subst rd;cases (show u=Value.none from rx);exact W.kia_one W.kitx_none I.kIn True.intro e (λ z=>nomatch z) fin
 | bool y=>simp only[aN] at rd;subst rd;cases (show u=Value.bool y from rx);exact W.kia_one W.kitx_bool I.kIn True.intro e (λ z=>nomatch z) fin
 | int i=>simp only[aN] at rd;subst rd;obtain⟨t,z⟩:=(show ∃ t,u=Value.int i t from rx);subst z;exact W.kia_one W.kitx_int I.kIn True.intro e (λ z=>nomatch z) fin
 | str y=>simp only[aN] at rd;subst rd;obtain⟨t,z⟩:=(show ∃ t,u=Value.str y t from rx);subst z;exact W.kia_one W.kitx_str I.kIn True.intro e (λ z=>nomatch z) fin
 | list ds =>
  simp only[aN] at rd;obtain⟨a,vs,z,hs,_⟩:=rd;subst z;cases (show u=Value.ref a from rx);obtain⟨its,rv,⟨o,n,e1,e2,e3,e4⟩,hz⟩:=I.list hs.sq;exact W.kia_one W.kitx_list I.kIn ⟨_,e1,e2⟩ e (λ z=>nomatch z) fin
 | tuple ds =>
  simp only[aN] at rd;obtain⟨a,vs,z,hs,_⟩:=rd;subst z;cases (show u=Value.ref a from rx);obtain⟨its,rv,⟨o,e1,e2,e3⟩,hz⟩:=I.tuple hs;exact W.kia_one W.kitx_tuple I.kIn ⟨_,e1,e2⟩ e (λ z=>nomatch z) fin
 | dict kvs =>
  simp only[aN] at rd;obtain⟨a,o,l,z,ha,_⟩:=rd;subst z;cases (show u=Value.ref a from rx);obtain⟨_,hs,vs,kv,o',es,ep,e1,e2,_⟩:=yF I.hok (.inr ⟨o,ha⟩);exact W.kia_one W.kitx_dict I.kIn ⟨_,e1,e2.1⟩ e (λ z=>nomatch z) fin
theorem u9{K:FG}{H:Hp}:∀ {bs:List Bool} {vs:List V} {us:List Value},bJ K H (bs.map PyData.bool) vs->Vals vs us->LSm.BoolsAre us bs
 | [],vs,us,h,r=>by simp only[List.map_nil,bJ] at h;subst h;cases r;exact .nil
 | b::bs,vs,us,h,r=>by
  simp only[List.map_cons,bJ] at h;obtain⟨v,vr,e,h1,h2⟩:=h;subst e;simp only[aN] at h1;subst h1;cases r with
  | cons r1 r2=>cases (show _=Value.bool b from r1);exact .cons b (u9 h2 r2)
theorem sT(hc:X.calm=true):fZ X (.builtin "all") (λ xs H Q=>∃ (x:V) (bs:List Bool),xs=[x]/\aN X.K H (.list (bs.map PyData.bool)) x/\Q (.bl (bs.all id)) H):=by
 intro pins s σ H xs us Q I r h;obtain⟨x,bs,rfl,rd,q⟩:=h;obtain⟨u,rfl,rx⟩:=vals1 r;simp only[aN] at rd;obtain⟨a,vs,z,hs,ra⟩:=rd;subst z;cases (show u=Value.ref a from rx);obtain⟨its,rv,pl,hz⟩:=I.list hs.sq;obtain⟨m,F⟩:=I.fr;have N:News X.base X.env.locals s.heap []:=λ p hp=>nomatch hp;have hb:=u9 ra rv;have hl:s.heap.IsList a its.toArray:=pl.isList;have hlt:a<s.heap.objs.size:=by obtain⟨_,e,_⟩:=hl;exact Heap.lt_size e
 refine call_all_walk (wpAny_pyIter_list hl ?_);refine⟨s.heap.objs.size,[s.heap.objs.size,a],[s.heap.objs.size],its.toArray.size,_,_,λ i=>(bs[i]?).getD true,rfl,Walks.list (A:=X.A.in1) (I.ok.hd hc) _ a (Nat.ne_of_lt hlt) its.toArray,
  ⟨⟨_,Heap.get?_push_size _ rfl,rfl,rfl⟩,hl.push _⟩,λ i v s' Q' E' hP hQ=>?_,λ h' tk hk=>?_⟩
 ·obtain⟨b,e,rfl⟩:=hb.get i v (by simpa using hP);simp only[e,Option.getD_some] at hQ;exact wpAny_truthy_bool hQ
 ·have e:((List.range its.toArray.size).all λ i=>(bs[i]?).getD true)=bs.all id:=by rw[List.size_toArray,hb.length];exact LSm.range_all bs
  rw[e];exact⟨.bl _,H,I.kept (LSm.kept_iter hk),rfl,q⟩
end D
namespace D
open L2
section
variable {X:Cx}{K:FG}
theorem OpR.or(h:OpR X f r)(h':OpR X f r'):OpR X f (λ x y H Q=>r x y H Q\/r' x y H Q):=by
 intro pins s σ H x y v u Q I rx ry q;rcases q with q | q
 ·exact h pins s σ H x y v u Q I rx ry q
 ·exact h' pins s σ H x y v u Q I rx ry q
theorem OpD.or(h:OpD K r rd)(h':OpD K r' rd'):OpD K (λ x y H Q=>r x y H Q\/r' x y H Q) (λ w w' M Q=>rd w w' M Q\/rd' w w' M Q):=by
 intro x y H w w' M Qd Q r1 r2 m q k;rcases q with q | q
 ·exact .inl (h x y H w w' M Qd Q r1 r2 m q k)
 ·exact .inr (h' x y H w w' M Qd Q r1 r2 m q k)
def agt(g:Int->Int->PyData)(w:W)(w':W)(M:MH)(Q:QD):Prop:=∃ i j,w=.d (.int i)/\w'=.d (.int j)/\Q (.d (g i j)) M
def rdI(C:Int->Int->Prop)(g:Int->Int->PyData)(w:W)(w':W)(M:MH)(Q:QD):Prop:=∃ i j,w=.d (.int i)/\w'=.d (.int j)/\C i j/\Q (.d (g i j)) M
theorem qc(hg:∀ i j H,aN K H (gd i j) (g i j)):OpD K (rI0 g) (agt gd):=by intro x y H w w' M Qd Q r1 r2 m ⟨i,j,e1,e2,q⟩ k;subst e1;subst e2;simp only[aQ,aN] at r1 r2;exact⟨i,j,r1,r2,k _ H (.d (gd i j)) M (Kp.refl H) (hg i j H) m q⟩
theorem afd(hg:∀ i j H,aN K H (gd i j) (g i j)):OpD K (rI C g) (rdI C gd):=by intro x y H w w' M Qd Q r1 r2 m ⟨i,j,e1,e2,c,q⟩ k;subst e1;subst e2;simp only[aQ,aN] at r1 r2;exact⟨i,j,r1,r2,c,k _ H (.d (gd i j)) M (Kp.refl H) (hg i j H) m q⟩
def agC(w w':W)(M:MH)(Q:QD):Prop:=agt (λ i j=>.int (i-j)) w w' M Q
def ju(w w':W)(M:MH)(Q:QD):Prop:=rdI ajp (λ i j=>.int (i * j)) w w' M Q
def hU(w w':W)(M:MH)(Q:QD):Prop:=rdI (λ _ j=>0<j) (λ i j=>.int (i % j)) w w' M Q
def abA(w w':W)(M:MH)(Q:QD):Prop:=rdI ali (λ i j=>.int (i / j)) w w' M Q
def ip(w:W)(w':W)(M:MH)(Q:QD):Prop:=agt (λ i j=>.int (i+j)) w w' M Q\/∃ x y,w=.d (.str x)/\w'=.d (.str y)/\x.length+y.length<=sizeLine/\Q (.d (.str (x++y))) M
theorem aaK:OpD K (rI0 λ i j=>.int (i-j)) agC:=qc λ _ _ _=>by simp[aN]
theorem lu:OpD K (rI ajp λ i j=>.int (i * j)) ju:=afd λ _ _ _=>by simp[aN]
theorem iC:OpD K (rI (λ _ j=>0<j) λ i j=>.int (i % j)) hU:=afd λ _ _ _=>by simp[aN]
theorem acd:OpD K (rI ali λ i j=>.int (i / j)) abA:=afd λ _ _ _=>by simp[aN]
def afQ:R2:=λ x y H Q=>∃ i j,x=.str i/\y=.str j/\i.length+j.length<=sizeLine/\Q (.str (i++j)) H
theorem adG:OpD K afQ (λ w w' M Q=>∃ x y,w=.d (.str x)/\w'=.d (.str y)/\x.length+y.length<=sizeLine/\Q (.d (.str (x++y))) M):=by intro x y H w w' M Qd Q r1 r2 m ⟨i,j,e1,e2,c,q⟩ k;subst e1;subst e2;simp only[aQ,aN] at r1 r2;exact⟨i,j,r1,r2,c,k _ H (.d (.str (i++j))) M (Kp.refl H) (by simp[aQ,aN]) m q⟩
theorem fG:OpR X (binaryOp .Add) (λ x y H Q=>rI0 (λ i j=>.int (i+j)) x y H Q\/afQ x y H Q):=OpR.or aj0 zt
theorem eA:OpD K (λ x y H Q=>rI0 (λ i j=>.int (i+j)) x y H Q\/afQ x y H Q) ip:=OpD.or (qc λ _ _ _=>by simp[aN]) adG
def rS(g:Str->Str->Bool):R2:=λ x y H Q=>∃ i j,x=.str i/\y=.str j/\Q (.bl (g i j)) H
def rdS(g:Str->Str->Bool)(w:W)(w':W)(M:MH)(Q:QD):Prop:=∃ i j,w=.d (.str i)/\w'=.d (.str j)/\Q (.d (.bool (g i j))) M
theorem alB:OpD K (rS g) (rdS g):=by intro x y H w w' M Qd Q r1 r2 m ⟨i,j,e1,e2,q⟩ k;subst e1;subst e2;simp only[aQ,aN] at r1 r2;exact⟨i,j,r1,r2,k _ H (.d (.bool (g i j))) M (Kp.refl H) (by simp[aQ,aN]) m q⟩
theorem abH:OpR X (compareOp .LtE) (rS λ x y=>!decide (y.cps.toList<x.cps.toList)):=by intro pins s σ H x y v u Q I rx ry h;obtain⟨i,j,rfl,rfl,q⟩:=h;obtain⟨t,rfl⟩:=rx;obtain⟨t',rfl⟩:=ry;exact PySem.P.le_str ⟨.bl _,H,I,rfl,q⟩
def aeK(w:W)(w':W)(M:MH)(Q:QD):Prop:=agt (λ i j=>.bool (decide (i<=j))) w w' M Q\/rdS (λ x y=>!decide (y.cps.toList<x.cps.toList)) w w' M Q
theorem oJ:OpR X (compareOp .LtE) (λ x y H Q=>rI0 (λ i j=>.bl (decide (i<=j))) x y H Q\/rS (λ x y=>!decide (y.cps.toList<x.cps.toList)) x y H Q):=OpR.or alo abH
theorem jz:OpD K (λ x y H Q=>rI0 (λ i j=>.bl (decide (i<=j))) x y H Q\/rS (λ x y=>!decide (y.cps.toList<x.cps.toList)) x y H Q) aeK:=OpD.or (qc λ _ _ _=>by simp[aN]) alB
def akX(w w':W)(M:MH)(Q:QD):Prop:=agt (λ i j=>.bool (decide (i<j))) w w' M Q
def ahD(w w':W)(M:MH)(Q:QD):Prop:=agt (λ i j=>.bool (decide (j<i))) w w' M Q
def ahF(w w':W)(M:MH)(Q:QD):Prop:=agt (λ i j=>.bool (decide (j<=i))) w w' M Q
theorem aep:OpD K (rI0 λ i j=>.bl (decide (i<j))) akX:=qc λ _ _ _=>by simp[aN]
theorem aa3:OpD K (rI0 λ i j=>.bl (decide (j<i))) ahD:=qc λ _ _ _=>by simp[aN]
theorem yn:OpD K (rI0 λ i j=>.bl (decide (j<=i))) ahF:=qc λ _ _ _=>by simp[aN]
def al0(w:W)(w':W)(M:MH)(Q:QD):Prop:=∃ d d',w=.d d/\w'=.d d'/\iy d d'=true/\Q (.d (.bool (PyData.eqv d d'))) M
theorem ail:OpD K (λ x y H Q=>∃ d d',aN K H d x/\aN K H d' y/\iy d d'=true/\Q (.bl (PyData.eqv d d')) H) al0:=by intro x y H w w' M Qd Q r1 r2 m ⟨d,d',e1,e2,o1,q⟩ k;subst e1;subst e2;exact⟨d,d',r1,r2,o1,k _ H (.d (.bool _)) M (Kp.refl H) (by simp[aQ,aN]) m q⟩
def acH:W->Bool
 | .d (.str z)=>decide (z.length<=sizeLine)
 | _=>true
def ixW(M:MH):W->Int->Option W
 | .d (.list ds),i=>(atI ds i).map W.d
 | .d (.tuple ds),i=>(atI ds i).map W.d
 | .d (.str z),i=>(atI z.cps.toList i).map λ c=>W.d (.str ⟨#[c]⟩)
 | .m a,i=>match M a with
  | some (.lst ws)=>atI ws i
  | some (.tup ws)=>atI ws i
  | _=>none
 | _,_=>none
inductive RIx(w:W) (w':W) (M:MH) (Q:QD):Prop
 | mk (i:Int) (x:W) (z0:w'=.d (.int i)) (z1:ixW M w i=some x) (z2:acH w=true) (q:Q x M):RIx w w' M Q
def bL(w:W)(w':W)(M:MH)(Q:QD):Prop:=RIx w w' M Q
theorem ye(r:bJ K H ds vs)(e:atI ds i=some d):∃ v,atI vs i=some v/\aN K H d v:=by
 unfold atI at e ⊢;rw[r.length];cases q:ixN ds.length i with
 | none=>rw[q] at e;cases e
 | some j =>
  rw[q] at e;exact r.get e
theorem tJ(r:bu K H ds vs)(e:atI ds i=some d):∃ v,atI vs i=some v/\aQ K H d v:=by
 unfold atI at e ⊢;rw[<- r.length];cases q:ixN ds.length i with
 | none=>rw[q] at e;cases e
 | some j =>
  rw[q] at e;exact r.get e
theorem aH:OpD K (rIx K) bL:=by
 intro x y H w w' M Qd Q r1 r2 m ⟨i,z,e2,ei,hf,q⟩ k;subst e2;simp only[aQ,aN] at r2;cases w with
 | t n=>simp[ixW] at ei
 | m a =>
  simp only[aQ] at r1;simp only[ixW] at ei;cases hm:M a with
  | none=>rw[hm] at ei;cases ei
  | some mo =>
   rw[hm] at ei;cases mo with
   | lst ws =>
    obtain⟨vs,e1,rw1⟩:=m a _ hm;obtain⟨v,e3,rv⟩:=tJ rw1 ei;exact .inl ⟨a,vs,i,v,r1,r2,SqL.of e1,e3,k v H z M (Kp.refl H) rv m q⟩
   | dic _=>cases ei
   | dct _=>cases ei
   | fdic _=>cases ei
   | ins _ _=>cases ei
   | tup ws =>
    obtain⟨vs,e1,rw1⟩:=m a _ hm;obtain⟨v,e3,rv⟩:=tJ rw1 ei;exact .inr (.inl ⟨a,vs,i,v,r1,r2,.inl (.inl e1),e3,k v H z M (Kp.refl H) rv m q⟩)
   | flst _=>cases ei
   | exc _ _=>cases ei
   | code _ _=>cases ei
 | d d =>
  cases d with
  | list ds =>
   simp only[aQ,aN] at r1;obtain⟨a,vs,e1,hs,ra⟩:=r1;simp only[ixW] at ei;cases h:atI ds i with
   | none=>rw[h] at ei;cases ei
   | some d =>
    rw[h] at ei;cases ei;obtain⟨v,e3,rv⟩:=ye ra h;exact .inl ⟨a,vs,i,v,e1,r2,hs.sq,e3,k v H (.d d) M (Kp.refl H) rv m q⟩
  | tuple ds =>
   simp only[aQ,aN] at r1;obtain⟨a,vs,e1,hs,ra⟩:=r1;simp only[ixW] at ei;cases h:atI ds i with
   | none=>rw[h] at ei;cases ei
   | some d =>
    rw[h] at ei;cases ei;obtain⟨v,e3,rv⟩:=ye ra h;exact .inr (.inl ⟨a,vs,i,v,e1,r2,hs,e3,k v H (.d d) M (Kp.refl H) rv m q⟩)
  | str s =>
   simp only[aQ,aN] at r1;simp only[ixW] at ei;cases h:atI s.cps.toList i with
   | none=>rw[h] at ei;cases ei
   | some c =>
    rw[h] at ei;cases ei;exact .inr (.inr ⟨s,i,c,r1,r2,of_decide_eq_true hf,h,k _ H (.d (.str ⟨#[c]⟩)) M (Kp.refl H) (by simp[aQ,aN]) m q⟩)
  | _=>simp[ixW] at ei
theorem agS(h:PE X e t):PE X e (λ σ H Q=>t σ H λ v H1=>Q v H1\/∃ p u,v=.ref p/\H1 p=some u/\Fz u/\∀ o,Q v (upd H1 p (.frz o u))):=by
 intro pins s σ H Q I hq;refine thn (h pins s σ H _ I hq) λ v s1 hq46=>?_;obtain⟨x,H1,I1,r1,q⟩:=hq46;rcases q with q | ⟨p,u,e1,e2,f,q⟩
 ·exact⟨x,_,I1,r1,q⟩
 ·obtain⟨o,I2⟩:=I1.freeze e2 f;exact⟨x,_,I2,r1,q o⟩
def al9:V->Option Int->Option Int->Hp->VK->Prop:=λ x lo hi H Q=>∃ z,x=.str z/\z.length<=sizeLine/\Q (.str (Txt.slice z lo hi)) H
theorem aiM:SlR X al9:=by
 intro pins s σ H x v vl vu lo hi sl Q I rx hs pl pu h;obtain⟨z,rfl,hz,q⟩:=h;obtain⟨t,rfl⟩:=rx;have fin:∀ t' k,EP X pins σ Q (.str (Txt.slice z lo hi) t') {s with toks:=k}:=λ t' k=>⟨.str _,H,I.tok _,⟨_,rfl⟩,q⟩;refine⟨"str",_,F.slot_str_getitem.lookup,typeIs_str _ _ _,?_⟩;cases pl with
 | none =>
  cases pu with
  | none=>exact wpAny_getItem_str_slice (l:=none) (u:=none) (st:=none) hs rfl (post_val_or_str ⟨Nat.le_trans (Txt.slice_le z _ _) hz,fin⟩)
  | int j uj=>exact wpAny_getItem_str_slice (l:=none) (u:=some (j,uj)) (st:=none) hs rfl (post_val_or_str ⟨Nat.le_trans (Txt.slice_le z _ _) hz,fin⟩)
 | int i ui =>
  cases pu with
  | none=>exact wpAny_getItem_str_slice (l:=some (i,ui)) (u:=none) (st:=none) hs rfl (post_val_or_str ⟨Nat.le_trans (Txt.slice_le z _ _) hz,fin⟩)
  | int j uj=>exact wpAny_getItem_str_slice (l:=some (i,ui)) (u:=some (j,uj)) (st:=none) hs rfl (post_val_or_str ⟨Nat.le_trans (Txt.slice_le z _ _) hz,fin⟩)
abbrev TOd:=DS->MH->(Option Int->MH->Prop)->Prop
def upO(K:FG)(t:TOd):TO:=λ σ H Q=>∃ τ M Qd,Abs K H σ τ M/\t τ M Qd/\∀ b H' M',Kp H H'->cX K H' M'->Qd b M'->Q b H'
abbrev POd(X:Cx)(e:Option Expr)(t:TOd):Prop:=PO X e (upO X.K t)
theorem amf(h:PO X e t)(k:∀ σ H Q,t' σ H Q->t σ H Q):PO X e t':=λ pins s σ H Q I q=>h pins s σ H Q I (k σ H Q q)
def dJ(_:DS)(M:MH)(Q:Option Int->MH->Prop):Prop:=Q none M
def iO(t:TD)(τ:DS)(M:MH)(Q:Option Int->MH->Prop):Prop:=t τ M λ w M1=>∃ i,w=.d (.int i)/\Q (some i) M1
theorem adQ(h:PD X e te):POd X (some e) (iO te):=amf (afW h) λ σ H Q ⟨τ,M,Qd,A,q,k⟩=>⟨τ,M,_,A,q,λ v H1 w M1 kp r m hq47=>by obtain⟨i,e,q1⟩:=hq47;subst e;simp only[aQ,aN] at r;exact⟨i,r,k _ H1 M1 kp m q1⟩⟩
def cutD(xs:List α)(lo hi:Option Int):List α:=(xs.drop (HT.sIx xs.length 0 lo)).take (HT.sIx xs.length xs.length hi-HT.sIx xs.length 0 lo)
def yw(n:Nat)(lo hi:Option Int):Bool:=decide (HT.sIx n 0 lo=0/\HT.sIx n n hi=n)
def slW:W->Option Int->Option Int->Option W
 | .d (.list ds),lo,hi=>some (.d (.list (cutD ds lo hi)))
 | .d (.tuple ds),lo,hi=>if yw ds.length lo hi then none else some (.d (.tuple (cutD ds lo hi)))
 | .d (.str z),lo,hi=>some (.d (.str (Txt.slice z lo hi)))
 | _,_,_=>none
def dSl(te:TD)(tl th:TOd)(τ:DS)(M:MH)(Q:QD):Prop:=te τ M λ w M1=>tl τ M1 λ lo M2=>th τ M2 λ hi M3=>∃ z,slW w lo hi=some z/\acH w=true/\Q z M3
theorem ajk:SlR X (λ x lo hi H Q=>al7 X.K x lo hi H Q\/alX X.K x lo hi H Q\/al9 x lo hi H Q):=afR.or (ah4.or aiM)
theorem bJ.cut(r:bJ K H ds vs)(lo hi:Option Int):bJ K H (cutD ds lo hi) (ae6 vs lo hi):=by
 unfold cutD ae6;rw[r.length];exact(r.drop _).take _
theorem adj{te:TD}{lo hi:Option Expr}{tl th:TOd}{pos p2:Pos}(he:PD X e te)(hl:POd X lo tl)(hu:POd X hi th):PD X (.Subscript e (.Slice lo hi none p2) pos) (dSl te tl th):=
 ie (agS (adt ajk he hl hu)) λ σ H Q h=>by
  obtain⟨τ,M,Qd,A,h,k⟩:=h;refine⟨τ,M,_,A,h,λ v H1 w M1 kp1 r1 m1 q1=>⟨τ,M1,_,A.go kp1 m1,q1,λ lo H2 M2 kp2 m2 q2=>⟨τ,M2,_,A.go (kp1.trans kp2) m2,q2,λ hi H3 M3 kp3 m3 q3=>?_⟩⟩⟩;obtain⟨z,ez,hf,q⟩:=q3;have kp:=(kp1.trans kp2).trans kp3;have r:=r1.keep (kp2.trans kp3);cases w with
  | t n=>simp[slW] at ez
  | m a=>simp[slW] at ez
  | d d =>
   cases d with
   | list ds =>
    simp only[slW] at ez;cases ez;simp only[aQ,aN] at r;obtain⟨a,vs,e1,hs,ra⟩:=r;exact .inl ⟨a,vs,e1,hs.sq,λ p hp=>.inr (rK hp (bJ.cut ra lo hi) m3 q (kgo k kp))⟩
   | tuple ds =>
    simp only[slW] at ez
    split at ez
    ·cases ez
    ·rename_i hw
     cases ez;simp only[aQ,aN] at r;obtain⟨a,vs,e1,hs,ra⟩:=r;refine .inr (.inl ⟨a,vs,e1,hs,?_,λ p hp=>.inl ?_⟩)
     ·rw[ra.length]
      simpa [yw] using hw
     ·refine k _ _ (.d (.tuple _)) M3 (kp.trans (Kp.new hp)) ?_ (m3.new hp) q;simp only[aQ,aN];exact⟨p,_,rfl,.inl (.inl aA),(bJ.cut ra lo hi).keep (Kp.new hp)⟩
   | str s =>
    simp only[slW] at ez;cases ez;simp only[aQ,aN] at r;exact .inr (.inr ⟨s,r,of_decide_eq_true hf,.inl (k _ H3 (.d (.str _)) M3 kp (by simp[aQ,aN]) m3 q)⟩)
   | _=>simp[slW] at ez
def ac1(to ti:TD)(v:W)(τ:DS)(M:MH)(Q:DS->MH->Prop):Prop:=to τ M λ w M1=>ti τ M1 λ w' M2=>∃ a ws i j,w=.m a/\w'=.d (.int i)/\M2 a=some (.lst ws)/\ixN ws.length i=some j/\Q τ (bC M2 a (.lst (ws.set j v)))
theorem abS(m:cX K H M)(e:H a=some (.lst vs))(rw1:bu K H ws vs)(rv:aQ K H w v) :
  Kp H (upd H a (.lst (vs.set j v)))/\cX K (upd H a (.lst (vs.set j v))) (bC M a (.lst (ws.set j w))):=by
 have kp:Kp H (upd H a (.lst (vs.set j v))):=Kp.set e (λ xs z=>nomatch z) λ _ _ z=>nomatch z;exact⟨kp,m.put kp ⟨_,aA,(bu.set rv j rw1).keep kp⟩⟩
theorem ahc(ho:PD X o to)(hi:PD X i ti)
  (ha:∀ v,assign (.Subscript o i pos) X.env v=(do
   let ov <- holding [v] (eval o X.env)
   let iv <- holding [v,ov] (eval i X.env)
   standAt pos
   holding [v,ov,iv] (setItem ov iv v)
   release [v,ov,iv] []):=by intro _;rfl):PGd X (.Subscript o i pos) (ac1 to ti):=akk (ajo ho hi set_list ha) λ v σ H Q h=>by
 obtain⟨w,τ,M,Qd,rv,A,h,k⟩:=h;refine⟨τ,M,_,A,h,λ x H1 wo M1 kp1 r1 m1 q1=>⟨τ,M1,_,A.go kp1 m1,q1,λ y H2 wi M2 kp2 r2 m2 q2=>?_⟩⟩;obtain⟨a,ws,i,j,e1,e2,hm,hj,q⟩:=q2;subst e1;subst e2;simp only[aQ,aN] at r1 r2;obtain⟨vs,e3,rw1⟩:=m2 a _ hm;have kp:=kp1.trans kp2;obtain⟨kp3,m3⟩:=abS (j:=j) m2 e3 rw1 (rv.keep kp);exact⟨a,vs,i,j,r1,r2,e3,by rw[<- rw1.length];exact hj,k σ _ τ _ (kp.trans kp3) (A.go (kp.trans kp3) m3) q⟩
theorem adZ:al2 X (alJ X.K):=by
 intro pins s σ H o i ov iv Q I ro ri h;obtain⟨p,xs,k,z,rfl,rfl,hq,he,q⟩:=h;cases ro;obtain⟨t,rfl⟩:=ri;obtain⟨its,r,pl,hz⟩:=I.list hq;obtain⟨j,h1,h2,h3,h4,h5⟩:=se he;obtain⟨w,ew,rw'⟩:=r.get h2;have hl:=r.length;have hn:=nE;have fin:EP X pins σ Q w s:=⟨z,H,I,rw',q⟩
 by_cases h0:0<=k
 ·have hj:k.toNat=j:=by rw[seqIndex_of h0 h5] at h1;exact Option.some.inj h1
  exact wpAny_getItem_list pl.isList h0 (by omega) (by rw[hj];simpa using ew) fin
 ·have hj:(k+(its.toArray.size:Int)).toNat=j:=by rw[seqIndex_neg (by omega) h4] at h1;rw[List.size_toArray,<- hl];exact Option.some.inj h1
  exact wpAny_getItem_list_neg pl.isList (by omega) (by rw[List.size_toArray]<;>omega) (by omega) (by rw[hj];simpa using ew) fin
def acO(to ti te:TD)(f:Int->Int->Int)(D:Ed)(τ:DS)(M:MH):Prop:=to τ M λ w M1=>ti τ M1 λ w' M2=>∃ a ws i j n,w=.m a/\w'=.d (.int i)/\M2 a=some (.lst ws)/\ixN ws.length i=some j/\ws[j]? =some (.d (.int n)) /\
 te τ M2 λ y M3=>∃ n',y=.d (.int n')/\M3=M2/\D.nx τ (bC M3 a (.lst (ws.set j (.d (.int (f n n'))))))
theorem acX(ho:PD X o to)(hi:PD X i ti)(he:PD X e te)(hp:PIp X op (ipI f))
  (ha:∀ ov iv new,augStore i ov iv new=(do holding [new,ov,iv] (setItem ov iv new);release [new,ov,iv] [];pure .next):=by intros;rfl):PSd X (.AugAssign (.Subscript o i tpos) op e pos) (acO to ti te f):=
 wB (af9 ho hi adZ he hp set_list ha) λ D σ H h=>by
  obtain⟨τ,M,Dd,A,h,k1,_⟩:=h;refine⟨τ,M,_,A,h,λ x H1 wo M1 kp1 r1 m1 q1=>⟨τ,M1,_,A.go kp1 m1,q1,λ y H2 wi M2 kp2 r2 m2 q2=>?_⟩⟩;obtain⟨a,ws,i,j,n,e1,e2,hm,hj,hn,q⟩:=q2;subst e1;subst e2;simp only[aQ,aN] at r1 r2;obtain⟨vs,e3,rw1⟩:=m2 a _ hm;obtain⟨v,e4,rv⟩:=rw1.get hn;simp only[aQ,aN] at rv;have hj':ixN vs.length i=some j:=by rw[<- rw1.length];exact hj
  refine⟨a,vs,i,v,r1,r2,SqL.of e3,by unfold atI;rw[hj'];exact e4,?_⟩;refine⟨τ,M2,_,A.go (kp1.trans kp2) m2,q,λ z H3 wz M3 kp3 r3 m3 q3=>?_⟩;obtain⟨n',e5,e6,qn⟩:=q3;subst e5;subst e6;simp only[aQ,aN] at r3;refine⟨n,n',rv,r3,?_⟩;obtain⟨vs',e3',rw2⟩:=m3 a _ hm;have kp:=(kp1.trans kp2).trans kp3;obtain⟨kp4,m4⟩:=abS (j:=j) (v:=.int (f n n')) (w:=.d (.int (f n n'))) m3 e3' rw2 (by simp[aQ,aN]);exact⟨a,vs',i,j,r1,r2,e3',by rw[<- rw2.length];exact hj,k1 σ _ τ _ (kp.trans kp4) (A.go (kp.trans kp4) m4) qn⟩
end
section
variable {X:Cx}{K:FG}{tg:Expr}
def Its(z:Str):It:=⟨λ i _=>i<z.cps.size,λ i H x H'=>H'=H/\∃ c,z.cps[i]? =some c/\x=.str ⟨#[c]⟩,λ i _=>z.cps.size<=i⟩
theorem xx(it:Addr)(T:String)(z:Str)(t:Tok)
  (hT:["enumerate", "zip", "dict_itemiterator", "dict_reverseitemiterator", "odict_iterator", "itertools.zip_longest", "itertools.pairwise"].contains T=false)
  (W:∀ A:Around,A.handled=none->Walks P w A it [it] [it] z.cps.size (SignAt z) (λ i h=>h.IsStrIter it T z t i))(hself:∀ (A:Around) (i:Nat) (s:Shared) (Q:VP) (E:VP),s.heap.IsStrIter it T z t i->Q (.ref it) s->wpAny (model P w) A (pyIter (.ref it)) Q E s)
  (hend:∀ (A:Around) (i:Nat) (s:Shared) (Q:Option Value->Shared->Prop) (E:VP),A.handled=none->s.heap.IsStrIter it T z t i->z.cps[i]? =none->(∀ h',Heap.ExtBut it s.heap h'->Q none {s with heap:=h'})->wpAny (model P w) A (pyNext (.ref it)) Q E s) :
  Turn P w K tg (Its z) [it] it (λ i h=>h.IsStrIter it T z t i) where
 mem:=by simp
 obj:=λ i h st b hb=>by
  have e:b=it:=by simpa using hb
  subst e;obtain⟨o,e,c,d⟩:=st;exact⟨o,e,λ v q=>by rw[d] at q;cases q⟩
 keep:=λ i h h' st k=>by obtain⟨o,e,r⟩:=st;exact⟨o,k it (by simp) o e,r⟩
 item:=by intro X hP hw hK hc i pins s σ H E I hf st hg;subst hP hw hK;obtain⟨f0,f1,f2,f3,f4,f5⟩:=hf it (by simp);refine(W X.A (I.ok.hd hc)).item i s _ _ hg st λ v h' tk hv st' kk=>?_;obtain⟨c,u,hc',rfl⟩:=hv;have I1:Inv X pins σ H {s with heap:=h',toks:=tk}:=I.turned (λ b o hb e=>kk b o (by simpa using hb) e) f0 f1 f3 f4 f5;obtain⟨o,e,cl,d⟩:=id st';exact⟨_,rfl,acK (s:={s with heap:=h',toks:=tk}) e cl d hT ⟨.str ⟨#[c]⟩,H,I1,⟨u,rfl⟩,⟨rfl,c,hc',rfl⟩,st',λ b hb=>(hf b hb).1⟩⟩
 done:=by intro X hP hw hK hc i pins s σ H E I hf st hg;subst hP hw hK;obtain⟨f0,f1,f2,f3,f4,f5⟩:=hf it (by simp);have hn:z.cps.size<=i:=hg;exact hend X.A i s _ E (I.ok.hd hc) st (by simp[hn]) λ h' eb=>⟨rfl,I.turned (t':=s.toks) (λ b o hb e=>eb b o hb e) f0 f1 f3 f4 f5⟩
 self:=hself
section
variable {pins:PN}{σ:St}{H:Hp}{s:Shared}{R:It->Hp->Prop}{E:VP}
theorem aiu(I:Inv X pins σ H s)(q:R (Its z) H):wpAny (model X.prog X.w) X.A (pyIter (.str z t)) (PIE X pins σ tg R) E s:=by
 cases ha:z.cps.all (·<128)
 ·refine wpAny_pyIter_wide ha ?_;refine⟨s.heap.objs.size,[s.heap.objs.size],_,_,H,rfl,I.kept (t':=s.toks) λ b o e=>Heap.get?_push_of_some _ e,
   xx _ "str_iterator" z t (by decide) (λ A hA=>Walks.strWide hA _ z t) (λ A i s Q E st h=>wpAny_pyIter_striter_wide st h) (λ A i s Q E hh st hx hQ=>wpAny_pyNext_wide_end hh st hx hQ),⟨_,Heap.get?_push_size _ rfl,rfl,rfl⟩,λ b hb=>?_,q⟩
  have e:b=s.heap.objs.size:=by simpa using hb
  subst e;exact I.zJ (lr0 _) (I.hok.fresh (lr0 _))
 ·refine wpAny_pyIter_ascii ha ?_;refine⟨s.heap.objs.size,[s.heap.objs.size],_,_,H,rfl,I.kept (t':=s.toks) λ b o e=>Heap.get?_push_of_some _ e,
   xx _ "str_ascii_iterator" z t (by decide) (λ A hA=>Walks.strAscii hA _ z t) (λ A i s Q E st h=>wpAny_pyIter_striter_ascii st h) (λ A i s Q E hh st hx hQ=>wpAny_pyNext_ascii_end hh st hx hQ),⟨_,Heap.get?_push_size _ rfl,rfl,rfl⟩,λ b hb=>?_,q⟩
  have e:b=s.heap.objs.size:=by simpa using hb
  subst e;exact I.zJ (lr0 _) (I.hok.fresh (lr0 _))
theorem afq(I:Inv X pins σ H s)(hq:SqL X.K H a xs)(q:R (Itl X.K a) H):wpAny (model X.prog X.w) X.A (pyIter (.ref a)) (PIE X pins σ tg R) E s:=by
 obtain⟨its,rv,p,hz⟩:=I.list hq;refine wpAny_pyIter_list p.isList ?_;refine⟨s.heap.objs.size,[s.heap.objs.size],_,_,H,rfl,I.kept (t':=s.toks) λ b o e=>Heap.get?_push_of_some _ e,aaJ a _,⟨_,Heap.get?_push_size _ rfl,rfl,rfl⟩,λ b hb=>?_,q⟩;have e:b=s.heap.objs.size:=by simpa using hb
 subst e;exact I.zJ (lr0 _) (I.hok.fresh (lr0 _))
theorem ahO(I:Inv X pins σ H s)(hq:SqT X.K H a xs)(q:R (Itt X.K a) H):wpAny (model X.prog X.w) X.A (pyIter (.ref a)) (PIE X pins σ tg R) E s:=by
 obtain⟨its,rv,p,hz⟩:=I.tuple hq;refine wpAny_pyIter_tuple (show s.heap.IsTuple a its.toArray from p) ?_;refine⟨s.heap.objs.size,[s.heap.objs.size],_,_,H,rfl,I.kept (t':=s.toks) λ b o e=>Heap.get?_push_of_some _ e,zi a _,⟨_,Heap.get?_push_size _ rfl,rfl,rfl⟩,λ b hb=>?_,q⟩;have e:b=s.heap.objs.size:=by simpa using hb
 subst e;exact I.zJ (lr0 _) (I.hok.fresh (lr0 _))
end
def amJ(K:FG)(tl:TE):TI:=λ σ H R=>tl σ H λ x H1=>(∃ a xs,x=.ref a/\SqL K H1 a xs/\R (Itl K a) H1)\/(∃ a xs,x=.ref a/\SqT K H1 a xs/\R (Itt K a) H1)\/∃ z,x=.str z/\R (Its z) H1
theorem ahN(hl:PE X l tl):PI X tg l (amJ X.K tl):=by
 intro pins s σ H R I h;refine thn (hl pins s σ H _ I h) λ v s1 hq48=>?_;obtain⟨x,H1,I1,r1,q1⟩:=hq48;rcases q1 with ⟨a,xs,e,hq,q⟩ | ⟨a,xs,e,hq,q⟩ | ⟨z,e,q⟩
 ·subst e;cases r1;exact afq I1 hq q
 ·subst e;cases r1;exact ahO I1 hq q
 ·subst e;obtain⟨t,rfl⟩:=r1;exact aiu I1 q
def ItD(K:FG)(J:It)(H0:Hp)(ws:List W):Prop:=∀ H,Kp H0 H->∀ i:Nat,(i<ws.length->J.go i H)/\(ws.length<=i->J.stop i H) /\
 ∀ x H',i<ws.length->J.yld i H x H'->Kp H H'/\(∀ M,cX K H M->cX K H' M)/\∃ w,ws[i]? =some w/\aQ K H' w x
abbrev TId:=DS->MH->(List W->MH->Prop)->Prop
def upI(K:FG)(t:TId):TI:=λ σ H R=>∃ τ M Rd,Abs K H σ τ M/\t τ M Rd/\∀ J H' ws M',Kp H H'->cX K H' M'->ItD K J H' ws->Rd ws M'->R J H'
abbrev PId(X:Cx)(tg iter:Expr)(t:TId):Prop:=PI X tg iter (upI X.K t)
theorem aj6(h:PI X tg iter t)(k:∀ σ H R,t' σ H R->t σ H R):PI X tg iter t':=λ pins s σ H R I q=>h pins s σ H R I (k σ H R q)
def nH:W->Option (List W)
 | .d (.list ds)=>some (ds.map W.d)
 | .d (.tuple ds)=>some (ds.map W.d)
 | .d (.str z)=>some (z.cps.toList.map λ c=>W.d (.str ⟨#[c]⟩))
 | _=>none
def eG(te:TD)(τ:DS)(M:MH)(R:List W->MH->Prop):Prop:=te τ M λ w M1=>∃ ws,nH w=some ws/\R ws M1
theorem afm(hs:SqT K H a vs)(ra:bJ K H ds vs):ItD K (Itt K a) H (ds.map W.d):=λ H1 kp i=>by
 have hl:=ra.length;refine⟨λ hi=>?_,λ hi=>⟨vs,SqT.keep kp hs,by rw[lm] at hi;omega⟩,λ x H' hi y=>?_⟩
 ·rw[lm] at hi;exact⟨vs,vs[i]'(by omega),SqT.keep kp hs,by simp⟩
 ·obtain⟨e,y⟩:=y;subst e;have ev:=y vs (SqT.keep kp hs);obtain⟨d,e1,rd⟩:=(ra.keep kp).get' ev;exact⟨Kp.refl _,λ M m=>m,.d d,by simp[e1],rd⟩
theorem afB(z:Str):ItD K (Its z) H (z.cps.toList.map λ c=>W.d (.str ⟨#[c]⟩)):=λ H1 kp i=>by refine⟨λ hi=>(show i<z.cps.size by simpa using hi),λ hi=>(show z.cps.size<=i by simpa using hi),λ x H' hi y=>?_⟩;obtain⟨e,c,hc,ex⟩:=y;subst e;subst ex;exact⟨Kp.refl _,λ M m=>m,.d (.str ⟨#[c]⟩),by simp[hc],by simp[aQ,aN]⟩
theorem zW(h:PD X l te):PId X tg l (eG te):=aj6 (ahN h) λ σ H R hq49=>by
 obtain⟨τ,M,Rd,A,h,k⟩:=hq49;refine⟨τ,M,_,A,h,λ v H1 w M1 kp r m hq50=>?_⟩;obtain⟨ws,e,q⟩:=hq50;cases w with
 | t n=>simp[nH] at e
 | m a=>simp[nH] at e
 | d d =>
  cases d with
  | list ds =>
   simp only[nH] at e;cases e;simp only[aQ,aN] at r;obtain⟨a,vs,e1,hs,ra⟩:=r;refine .inl ⟨a,vs,e1,hs.sq,k _ H1 _ M1 kp m ?_ q⟩;intro H2 kp2 i;have hl:=ra.length;have hs2:=(hs.keep kp2).sq;refine⟨λ hi=>?_,λ hi=>⟨vs,hs2,by rw[lm] at hi;omega⟩,λ x H' hi y=>?_⟩
   ·rw[lm] at hi;exact⟨vs,vs[i]'(by omega),hs2,by simp⟩
   ·obtain⟨e,y⟩:=y;subst e;have ev:=y vs hs2;obtain⟨d,e1,rd⟩:=(ra.keep kp2).get' ev;exact⟨Kp.refl _,λ M m=>m,.d d,by simp[e1],rd⟩
  | tuple ds =>
   simp only[nH] at e;cases e;simp only[aQ,aN] at r;obtain⟨a,vs,e1,hs,ra⟩:=r;exact .inr (.inl ⟨a,vs,e1,hs,k _ H1 _ M1 kp m (afm hs ra) q⟩)
  | str z =>
   simp only[nH] at e;cases e;simp only[aQ,aN] at r;exact .inr (.inr ⟨z,r,k _ H1 _ M1 kp m (afB z) q⟩)
  | _=>simp[nH] at e
theorem gb(r:bu K H [w] vs):∃ v,vs=[v]/\aQ K H w v:=by
 cases r with
 | cons r1 r2=>cases r2;exact⟨_,rfl,r1⟩
theorem xS(r:bu K H [w,w'] vs):∃ v v',vs=[v,v']/\aQ K H w v/\aQ K H w' v':=by
 cases r with
 | cons r1 r2 =>
  cases r2 with
  | cons r3 r4=>cases r4;exact⟨_,_,rfl,r1,r3⟩
def ag3(di:TId)(g:TGd)(tb:TSd)(D:Ed)(τ:DS)(M:MH):Prop:=di τ M λ ws M1=>∃ P:Nat->DS->MH->Prop,P 0 τ M1 /\
 (∀ i w τ M,ws[i]? =some w->P i τ M->g w τ M λ τ2 M2=>tb {D with nx:=P (i+1),ct:=P (i+1),bk:=D.nx} τ2 M2)/\∀ τ M,P ws.length τ M->D.nx τ M
theorem agO(hp:PassesOwn (model X.prog X.w) X.A X.env X.xe)(hc:X.calm=true)(hi:PId X tg iter di)(hg:PGd X tg g)(hb:pU X body tb)
  (hs:∀ x,foldedSetIterable iter X.env x=pure x:=by intro _;rfl):PSd X (.For tg iter body [] pos) (ag3 di g tb):=wB (ai9 hp hc hi hg hb hs) λ D σ H hq51=>by
 obtain⟨τ,M,Dd,A,h,k1,k2,k3,k4⟩:=hq51;refine⟨τ,M,_,A,h,λ J H1 ws M1 kp m1 it hq52=>?_⟩;obtain⟨P,p0,pt,pe⟩:=hq52;refine⟨λ i n σ H'=>n=ws.length-i/\i<=ws.length/\Kp H1 H'/\∃ τ M,Abs X.K H' σ τ M/\P i τ M,⟨ws.length,by simp,Nat.zero_le _,Kp.refl _,τ,M1,A.go kp m1,p0⟩,?_⟩;rintro i n σ2 H2 ⟨rfl,hi,kp2,τ2,M2,A2,p2⟩;obtain⟨go,stop,yld⟩:=it H2 kp2 i
 by_cases hlt:i<ws.length
 ·refine .inr ⟨go hlt,λ σ3 H3=>Kp H2 H3/\∃ τ M,Abs X.K H3 σ3 τ M/\P (i+1) τ M,λ σ3 H3 ⟨kp3,τ3,M3,A3,p3⟩=>⟨ws.length-(i+1),by omega,rfl,hlt,kp2.trans kp3,τ3,M3,A3,p3⟩,λ x H3 y=>?_⟩;obtain⟨kp3,mk,w,ew,rw⟩:=yld x H3 hlt y;refine⟨w,τ2,M2,_,rw,A2.go kp3 (mk _ A2.mem),pt i w τ2 M2 ew p2,λ σ4 H4 τ4 M4 kp4 A4 q4=>?_⟩;have kq:=kp3.trans kp4;have kr:=(kp.trans kp2).trans kq;exact⟨τ4,M4,_,A4,q4,λ σ5 H5 τ5 M5 kp5 A5 q5=>⟨kq.trans kp5,τ5,M5,A5,q5⟩,λ v H5 w M5 kp5=>k2 v H5 w M5 (kr.trans kp5),λ σ5 H5 τ5 M5 kp5=>k1 σ5 H5 τ5 M5 (kr.trans kp5),λ σ5 H5 τ5 M5 kp5 A5 q5=>⟨kq.trans kp5,τ5,M5,A5,q5⟩⟩
 ·have hl:i=ws.length:=by omega
  subst hl;exact .inl ⟨stop (lr0 _),k1 σ2 H2 τ2 M2 (kp.trans kp2) A2 (pe τ2 M2 p2)⟩
def aej(k:Nat)(fr:List Nat)(τ:DS):DS:=List.replicate k none++fr.map λ j=>(τ[j]?).getD none
theorem ae4(A:Abs K H σ τ M)(k:Nat)(fr:List Nat):Abs K H (lcS k fr σ) (aej k fr τ) M:=by
 refine⟨by simp[lcS,aej],λ i w e=>?_,A.mem⟩;unfold aej at e
 by_cases hi:i<k
 ·rw[List.getElem?_append_left (by simpa using hi),List.getElem?_replicate] at e
  split at e<;>cases e
 ·rw[List.getElem?_append_right (by simpa using hi),List.getElem?_map,List.length_replicate] at e;cases q:fr[i-k]? with
  | none=>rw[q] at e;cases e
  | some j =>
   rw[q] at e;have e':(τ[j]?).getD none=some w:=Option.some.inj e;have e2:τ[j]? =some (some w):=by
    cases z:τ[j]? with
    | none=>rw[z] at e';cases e'
    | some o=>rw[z] at e';exact congrArg some e'
   obtain⟨v,q1,r⟩:=A.val j w e2;refine⟨v,?_,r⟩;unfold lcS;rw[List.getElem?_append_right (by simpa using hi),List.getElem?_map,List.length_replicate,q];simp[q1]
def dLC(di:TId)(g:TGd)(tt:TTd)(te:TD)(k:Nat)(fr:List Nat)(τ:DS)(M:MH)(Q:QD):Prop:=di τ M λ ws M1=>∃ P:Nat->List PyData->DS->MH->Prop,P 0 [] (aej k fr τ) M1 /\
 (∀ i w acc τ M,ws[i]? =some w->P i acc τ M->acc.length<sizeLine/\g w τ M λ τ2 M2=>tt τ2 M2 λ b M3=>if b=true then te τ2 M3 λ y M4=>∃ d,y=.d d/\P (i+1) (acc++[d]) τ2 M4 else P (i+1) acc τ2 M3) /\
 ∀ acc τ M,P ws.length acc τ M->Q (.d (.list acc)) M
theorem aeo(h:up K (dLC di g tt te k fr) σ H Q) :
  alN (tLC (upI K di) (upG K g) (upT K tt) (up K te) k fr) σ H Q:=by
 obtain⟨τ,M,Qd,A,h,kk⟩:=h;refine⟨τ,M,_,A,h,λ J H1 ws M1 kp m1 it hq53=>?_⟩;obtain⟨P,p0,pt,pe⟩:=hq53;refine⟨λ i n ys σ' H'=>n=ws.length-i/\i<=ws.length/\Kp H1 H'/\∃ acc τ M,bJ K H' acc ys/\Abs K H' σ' τ M/\P i acc τ M,⟨ws.length,by simp,Nat.zero_le _,Kp.refl _,[],_,M1,by simp[bJ],ae4 (A.go kp m1) k fr,p0⟩,?_⟩;rintro i n ys σ2 H2 ⟨rfl,hi,kp2,acc,τ2,M2,ra,A2,p2⟩;obtain⟨go,stop,yld⟩:=it H2 kp2 i
 by_cases hlt:i<ws.length
 ·have hlen:=ra.length;refine .inr ⟨go hlt,?_,λ x H3 y=>?_⟩
  ·obtain⟨w,hw⟩:∃ w,ws[i]? =some w:=⟨ws[i],by simp[hlt]⟩;have:=(pt i w acc τ2 M2 hw p2).1;omega
  obtain⟨kp3,mk,w,ew,rw⟩:=yld x H3 hlt y;refine⟨w,τ2,M2,_,rw,A2.go kp3 (mk _ A2.mem),(pt i w acc τ2 M2 ew p2).2,λ σ4 H4 τ4 M4 kp4 A4 q4=>⟨τ4,M4,_,A4,q4,λ b H5 M5 kp5 m5 q5=>?_⟩⟩;have kq:=(kp3.trans kp4).trans kp5;cases b with
  | false =>
   rw[if_neg ft0] at q5;show(if false=true then _ else _);rw[if_neg ft0];exact⟨ws.length-(i+1),by omega,rfl,hlt,kp2.trans kq,acc,τ4,M5,ra.keep kq,A4.go kp5 m5,q5⟩
  | true =>
   rw[if_pos rfl] at q5;show(if true=true then _ else _);rw[if_pos rfl];refine⟨τ4,M5,_,A4.go kp5 m5,q5,λ v H6 wv M6 kp6 r6 m6 hq54=>?_⟩;obtain⟨d,e6,q6⟩:=hq54;subst e6;refine⟨ws.length-(i+1),by omega,rfl,hlt,kp2.trans (kq.trans kp6),acc++[d],τ4,M6,bJ.append (ra.keep (kq.trans kp6)) ?_,A4.go (kp5.trans kp6) m6,q6⟩;simp only[bJ];exact⟨v,[],rfl,r6,rfl⟩
 ·have hl:i=ws.length:=by omega
  subst hl;exact .inl ⟨stop (lr0 _),λ p hp=>rK hp ra A2.mem (pe acc τ2 M2 p2) (kgo kk (kp.trans kp2))⟩
section
variable {sc:Scope}{own:List Str}{fr:List Nat}{elt iter:Expr}{ifs:List Expr}{pos:Pos}{di:TId}{g:TGd}{tt:TTd}{te:TD}
abbrev acM(X:Cx)(ifs:List Expr)(t:TTd):Prop:=PTs X ifs (upT X.K t)
def adb(_:DS)(M:MH)(Q:Bool->MH->Prop):Prop:=Q true M
theorem ac3(h:PTd X c t):acM X [c] t:=ahd h
theorem ak8(hc:X.calm=true)(L:yK X sc own fr)(hi:PId X tg iter di)
  (hg:∀ cl C s H ex pl,PGd (blk X sc (lcN X own fr) cl C s H ex pl) tg g)(ht:∀ cl C s H ex pl,acM (blk X sc (lcN X own fr) cl C s H ex pl) ifs tt)(he:∀ cl C s H ex pl,PD (blk X sc (lcN X own fr) cl C s H ex pl) elt te)
  (hs:∀ x,foldedSetIterable iter X.env x=pure x:=by intro _;rfl):PD X (.ListComp elt [⟨tg,iter,ifs,0⟩] sc pos) (dLC di g tt te own.length fr):=
 ie (ub (ajg hc L hi hg ht he hs)) λ σ H Q h=>aeo h
theorem ait{st:Stmt}{t:TS}(h:PS X st t):PS X st (λ D σ H=>t {D with nx:=λ σ' H'=>∃ p u,H' p=some u/\Fz u/\∀ o,D.nx σ' (upd H' p (.frz o u))} σ H):=by
 intro pins s σ H D I hq;refine thn (h pins s σ H _ I hq) λ f s1 q=>?_;cases f with
 | next =>
  obtain⟨σ',H',I',p,u,e,fz,q⟩:=q;obtain⟨o,I2⟩:=I'.freeze e fz;exact⟨σ',_,I2,q o⟩
 | brk=>exact q
 | cont=>exact q
 | ret v=>exact q
theorem aah{i:Nat}{pos' spos:Pos}(hN:X.N.Nodup)(hi':X.N[i]? =some x)(hx:Loc X.env.scope x)(hc:X.calm=true)(L:yK X sc own fr)(hi:PId X tg iter di)
  (hg:∀ cl C s H ex pl,PGd (blk X sc (lcN X own fr) cl C s H ex pl) tg g)(ht:∀ cl C s H ex pl,acM (blk X sc (lcN X own fr) cl C s H ex pl) ifs tt)(he:∀ cl C s H ex pl,PD (blk X sc (lcN X own fr) cl C s H ex pl) elt te)
  (hsw:swapsWith (.ListComp elt [⟨tg,iter,ifs,0⟩] sc pos) (some (.Name x pos')) spos.line X.env=pure true:=by rfl)
  (hs:∀ x,foldedSetIterable iter X.env x=pure x:=by intro _;rfl)(hf:X.fn x=true\/X.env.scope.names.lookup x=some .local:=by first | exact .inl rfl | exact .inr rfl | assumption) :
  PSd X (.Assign [.Name x pos'] (.ListComp elt [⟨tg,iter,ifs,0⟩] sc pos) spos) (dU (dLC di g tt te own.length fr) (gN i)):=wB (ait (adW hN hi' hx hc L hi hg ht he hsw hs hf)) λ D σ H hq55=>by
 obtain⟨τ,M,Dd,A,h,k1,_⟩:=hq55;have z:up X.K (dLC di g tt te own.length fr) σ H (λ v H'=>D.nx (σ.set i (some v)) H'):=⟨τ,M,_,A,h,λ v H1 w M1 kp r m q=>k1 _ H1 _ M1 kp ((A.go kp m).set i r) q⟩;obtain⟨τ',M',R',A',h',k'⟩:=aeo z;refine⟨τ',M',R',A',h',λ J H1 ws M1 kp m1 it q=>?_⟩;obtain⟨W,w0,st⟩:=k' J H1 ws M1 kp m1 it q;refine⟨W,w0,λ i m ys τ H w=>?_⟩;rcases st i m ys τ H w with ⟨s1,s2⟩ | r
 ·refine .inl ⟨s1,λ p hp=>?_⟩;obtain⟨p',u,e1,e2,f,q⟩:=s2 p hp;cases e1;exact⟨p,u,e2,f,q⟩
 ·exact .inr r
end
end
section
variable {X:Cx}{K:FG}
def aiS(ws:List W)(M:MH)(Q:QD):Prop:=∃ i:Int,ws=[.d (.int i)]/\Q (.d (.int (if i<0 then -i else i))) M
theorem aiW:iz K (λ xs H Q=>∃ i,xs=[.int i]/\Q (.int (if i<0 then -i else i)) H) aiS:=by intro vs H ws M Qd Q r m ⟨i,e,q⟩ k;subst e;obtain⟨v,e1,r1⟩:=gb r;simp only[aQ,aN] at r1;subst r1;exact⟨i,e1,k _ H (.d (.int _)) M (Kp.refl H) (by simp[aQ,aN]) m q⟩
def ab5(M:MH):W->Option Nat
 | .d (.list ds)=>some ds.length
 | .d (.tuple ds)=>some ds.length
 | .d (.str z)=>some z.length
 | .m a=>match M a with
  | some (.lst ws)=>some ws.length
  | _=>none
 | _=>none
def jC(ws:List W)(M:MH)(Q:QD):Prop:=∃ w n,ws=[w]/\ab5 M w=some n/\acH w=true/\Q (.d (.int (n:Nat))) M
theorem jj:iz K (λ xs H Q=>∃ x n,xs=[x]/\al1 K x H n/\Q (.int n) H) jC:=by
 intro vs H ws M Qd Q r m ⟨w,n,e,hn,hf,q⟩ k;subst e;obtain⟨v,e1,r1⟩:=gb r;refine⟨v,n,e1,?_,k _ H (.d (.int _)) M (Kp.refl H) (by simp[aQ,aN]) m q⟩;cases w with
 | t _=>simp[ab5] at hn
 | m a =>
  simp only[aQ] at r1;subst r1;simp only[ab5] at hn;cases hm:M a with
  | none=>rw[hm] at hn;cases hn
  | some mo =>
   rw[hm] at hn;cases mo with
   | lst l=>cases hn;obtain⟨us,e2,rw1⟩:=m a _ hm;exact .inl ⟨us,SqL.of e2,rw1.length⟩
   | dic _=>cases hn
   | dct _=>cases hn
   | fdic _=>cases hn
   | ins _ _=>cases hn
   | tup _=>cases hn
   | flst _=>cases hn
   | exc _ _=>cases hn
   | code _ _=>cases hn
 | d d =>
  cases d with
  | list ds=>simp only[ab5] at hn;cases hn;simp only[aQ,aN] at r1;obtain⟨a,us,e2,hs,ra⟩:=r1;subst e2;exact .inl ⟨us,hs.sq,ra.length.symm⟩
  | tuple ds=>simp only[ab5] at hn;cases hn;simp only[aQ,aN] at r1;obtain⟨a,us,e2,hs,ra⟩:=r1;subst e2;exact .inr ⟨us,hs,ra.length.symm⟩
  | str z=>simp only[ab5] at hn;cases hn;simp only[aQ,aN] at r1;subst r1;exact⟨of_decide_eq_true hf,rfl⟩
  | _=>simp[ab5] at hn
def adh(ws:List W)(M:MH)(Q:QD):Prop:=∃ bs:List Bool,ws=[.d (.list (bs.map PyData.bool))]/\Q (.d (.bool (bs.all id))) M
theorem aei:iz K (λ xs H Q=>∃ (x:V) (bs:List Bool),xs=[x]/\aN K H (.list (bs.map PyData.bool)) x/\Q (.bl (bs.all id)) H) adh:=by intro vs H ws M Qd Q r m ⟨bs,e,q⟩ k;subst e;obtain⟨v,e1,r1⟩:=gb r;exact⟨v,bs,e1,r1,k _ H (.d (.bool _)) M (Kp.refl H) (by simp[aQ,aN]) m q⟩
def xI:List (TD×TD)->DS->MH->(List (W×W)->MH->Prop)->Prop
 | [],_,M,Q=>Q [] M
 | (tk,tv)::r,τ,M,Q=>tk τ M λ x M1=>tv τ M1 λ y M2=>xI r τ M2 λ ps M3=>Q ((x,y)::ps) M3
theorem nh:∀ {trs:List (TD×TD)} {σ:St} {H:Hp} {τ:DS} {M:MH} {Qd:List (W×W)->MH->Prop} {Q:List (V×V)->Hp->Prop},Abs K H σ τ M->xI trs τ M Qd ->
  (∀ ps H' ws M',Kp H H'->Paired (λ(p:W×W) (q:V×V)=>aQ K H' p.1 q.1/\aQ K H' p.2 q.2) ws ps->cX K H' M'->Qd ws M'->Q ps H')->xy (trs.map λ p=>(up K p.1,up K p.2)) σ H Q
 | [],σ,H,τ,M,Qd,Q,A,h,k=>k [] H [] M (Kp.refl H) .nil A.mem h
 | (tk,tv)::r,σ,H,τ,M,Qd,Q,A,h,k=>by show(up K tk) σ H _;refine⟨τ,M,_,A,h,λ x H1 w M1 kp1 r1 m1 q1=>⟨τ,M1,_,A.go kp1 m1,q1,λ y H2 w' M2 kp2 r2 m2 q2=>?_⟩⟩;refine nh (A.go (kp1.trans kp2) m2) q2 λ ps H3 ws M3 kp3 r3 m3 q3=>?_;exact k _ H3 _ M3 ((kp1.trans kp2).trans kp3) (.cons ⟨r1.keep (kp2.trans kp3),r2.keep kp3⟩ r3) m3 q3
def vX(trs:List (TD×TD))(τ:DS)(M:MH)(Q:QD):Prop:=∀ p,M p=none->xI trs τ (bC M p (.dic [])) λ ps M2=>M2=bC M p (.dic [])/\∃ kvs:List (Key×PyData),ps=kvs.map (λ q=>(W.d (tE q.1),W.d q.2))/\kvs.length<=15/\(kvs.map (·.1)).Nodup /\
 Q (.d (.dict (kvs.map λ q=>(tE q.1,q.2)))) M
theorem iZ:∀ {more kvs:List (Key×V)},((kvs++more).map (·.1)).Nodup->ig kvs more=kvs++more
 | [],kvs,_=>by simp[ig]
 | p::r,kvs,h=>by
  have hn:nO kvs p.1=none:=by
   cases e:nO kvs p.1 with
   | none=>rfl
   | some v =>
    have q:(kvs.any λ kv=>decide (kv.1=p.1))=true:=by rw[my,e];rfl
    obtain⟨z,hz,ez⟩:=List.any_eq_true.mp q;rw[List.map_append,List.nodup_append] at h;exact absurd (of_decide_eq_true ez) (h.2.2 _ (List.mem_map_of_mem hz) _ (by simp))
  show ig (putK kvs p.1 p.2) r=_;rw[acA _ hn,iZ (by simpa using h)];simp
theorem wC(r:aN K H (tE key) v):v=kV key:=by
 cases key<;>(simp only[tE,aN] at r;exact r)
theorem uc:∀ {kvs:List (Key×PyData)} {ps:List (V×V)},Paired (λ(p:W×W) (q:V×V)=>aQ K H p.1 q.1/\aQ K H p.2 q.2) (kvs.map λ q=>(W.d (tE q.1),W.d q.2)) ps ->
  ∃ l:List (Key×V),ps=l.map (λ kv=>(kV kv.1,kv.2))/\l.map (·.1)=kvs.map (·.1)/\l4 K H (kvs.map λ q=>(tE q.1,q.2)) l
 | [],ps,h=>by cases h;exact⟨[],rfl,rfl,by simp[l4]⟩
 | (k,d)::kvs,ps,h=>by
  cases h with
  | cons r t =>
   rename_i q qs
   obtain⟨x,y⟩:=q;obtain⟨l,e1,e2,e3⟩:=uc t;refine⟨(k,y)::l,?_,by simp[e2],?_⟩
   ·rw[List.map_cons,<- e1,<- wC r.1]
   ·simp only[List.map_cons,l4];exact⟨k,y,l,rfl,rfl,r.2,e3⟩
theorem age(h:PPs X pos keys values (trs.map λ p=>(up X.K p.1,up X.K p.2)))(hall:keys.all (·.isSome)=true:=by rfl)(hl:keys.length=values.length:=by rfl)(h0:keys≠[]:=by simp)
  (h15:keys.length<=15:=by decide):PD X (.Dict keys values pos) (vX trs):=ie (ub (abu h hall hl h0 h15)) λ σ H Q ⟨τ,M,Qd,A,q,k⟩=>λ p hp=>by
 have kp0:Kp H (upd H p (.dK [])):=Kp.new hp;have m0:cX X.K (upd H p (.dK [])) (bC M p (.dic [])):=A.mem.put (mo:=.dic []) kp0 ⟨[],aA,.nil⟩;have hM:=A.mem.free hp;refine nh (A.go kp0 m0) (q p hM) λ ps H2 ws M2 kp2 r2 m2 hq56=>?_;obtain⟨eM,kvs,ews,hlen,hnd,qq⟩:=hq56;subst eM;subst ews;obtain⟨l0,e0,pr0⟩:=m2 p _ ao;have el0:l0=[]:=by cases pr0;rfl
 subst el0;obtain⟨l,e1,e2,e3⟩:=uc r2;have elen:l.length=kvs.length:=by
  have:=congrArg List.length e2
  simpa using this
 refine⟨e0,l,e1,by omega,p,_,rfl,aA,trivial,λ o=>?_⟩;have em:ig [] l=l:=by rw[iZ (by simpa [e2] using hnd)];rfl
 rw[ab0,em];have kp3:Kp H2 (upd H2 p (.frz o (.dK l))):=Kp.set e0 (λ xs z=>nomatch z) λ _ _ z=>nomatch z;refine k _ _ (.d (.dict _)) M ((kp0.trans kp2).trans kp3) ?_ (λ a mo hm=>?_) qq
 ·simp only[aQ,aN];exact⟨p,o,l,rfl,aA,e3.keep kp3⟩
 ·have hne:a≠p:=λ z=>by rw[z,hM] at hm;cases hm
  exact(m2 a mo (by rw[ar hne];exact hm)).keep kp3 λ u z=>by rw[aB hne];exact z
end
structure Fn(K:FG)(mg:Str->Option Value)(x:Str)(st:Stmt)(ps:List Str)(f:Addr)(fd:FuncData):Prop where
 fn:Fun K x x st f fd
 mg:mg x=some (.ref f)
 bd:Binds K fd ps []
section
variable {K:FG}{mg:Str->Option Value}{h:Heap}
theorem agK{st:Stmt}{ps:List Str}{oc:Value}{od an:Option Addr}{osl:Array (Option Value)}{kV doc pm cdv ct:Value}(X:K.In h)(G:h.Ns mainGlobals mg)(a:W.nsIn K mainGlobals x=some (some (.ref f)))
  (l:K.lookup f=some ⟨oc,od,.func (W.fnOf x x (bh st) (aY st) (ak st) .none kV doc pm an cdv ct),osl⟩)(c:W.codeIn K cdv x=true)(k:W.keepIn K (.ref f)=true)
  (b:∀ (kV doc pm:Value) (an:Option Addr) (cdv ct:Value) (us:List Value),us.length=ps.length->bindArgs (W.fnOf x x (bh st) (aY st) (ak st) .none kV doc pm an cdv ct) ⟨us,[]⟩=pure (ps.zip us)) :
  Fn K mg x st ps f (W.fnOf x x (bh st) (aY st) (ak st) .none kV doc pm an cdv ct):=
 have F:=sR (st:=st) l c k
 ⟨F,W.mg_of X G a,F.binds b⟩
end
def aic(sc scX:Scope)(N:List Str)(fr:List Nat):Bool:=
 (sc.kind==.function)&&sc.names.all (λ y=>!(y.2==.cell))&&sc.names.all (λ y=>!(y.2==.free) || scX.names.lookup y.1==some .cell || scX.names.lookup y.1==some .free) &&
  sc.names.all (λ y=>!(y.2==.local) || sc.names.lookup y.1==some .local)&&akf N sc fr
theorem vV(h:aic sc X.env.scope X.N fr=true):yK X sc own fr:=by
 simp only[aic,ae00] at h;obtain⟨⟨⟨⟨h1,h2⟩,h3⟩,h4⟩,h5⟩:=h;refine⟨eq_of_beq h1,λ y hy e=>?_,λ y hy e=>?_,λ y hy e=>?_,h5⟩
 ·have:=List.all_eq_true.mp h2 y hy;simp[e] at this
 ·have:=List.all_eq_true.mp h3 y hy;simp only[e,beq_self_eq_true,Bool.not_true,Bool.false_or,Bool.or_eq_true] at this;rcases this with z | z
  ·exact .inl (eq_of_beq z)
  ·exact .inr (eq_of_beq z)
 ·have:=List.all_eq_true.mp h4 y hy;simp only[e,beq_self_eq_true,Bool.not_true,Bool.false_or] at this;exact eq_of_beq this
theorem ai3:bootBuiltins "int" = some (.type "int"):=by decide +kernel
theorem abO:bootBuiltins "str" = some (.type "str"):=by decide +kernel
theorem agD:bootBuiltins "bool" = some (.type "bool"):=by decide +kernel
theorem fk:bootBuiltins "list" = some (.type "list"):=by decide +kernel
theorem xR:bootBuiltins "tuple" = some (.type "tuple"):=by decide +kernel
theorem agB:bootBuiltins "dict" = some (.type "dict"):=by decide +kernel
theorem je:bootBuiltins "len" = some (.builtin "len"):=by decide +kernel
theorem ajl:bootBuiltins "abs" = some (.builtin "abs"):=by decide +kernel
theorem aaZ:bootBuiltins "repr" = some (.builtin "repr"):=by decide +kernel
theorem ael:bootBuiltins "all" = some (.builtin "all"):=by decide +kernel
theorem cy:bootBuiltins "isinstance" = some (.builtin "isinstance"):=by decide +kernel
def eF:Expr->Bool
 | .Starred ..=>true
 | _=>false
theorem bV(e:Expr)(es:List Expr)(env:PySem.Env)(h:eF e=false):starEach (e::es) env=(false,eval e env)::starEach es env:=by
 cases e<;>first | rfl | (exact absurd h (by simp[eF]))
theorem cI(pos:Pos)(env:PySem.Env):∀ es:List Expr,(es.all λ e=>!eF e)=true->(backTo pos (starEach es env)).any (·.1)=false
 | [],_=>rfl
 | e::es,h=>by rw[List.all_cons,ae00,Bool.not_eq_true'] at h;rw[bV e es env h.1];show(false || (backTo pos (starEach es env)).any (·.1))=false;rw[cI pos env es h.2];rfl
section
variable {X:Cx}{pos p:Pos}{e:Expr}{es:List Expr}{te:TD}{t:TAd}{x:Str}{id T:String}{r:List V->Hp->VK->Prop}{rd:List W->MH->QD->Prop}{k:Nat}{f:Addr}{fd:FuncData}{ps:List Str}{sp:SpD}
theorem pac(ha:PD X e te)(hr:PAd X es t)(h:eF e=false:=by rfl):PAd X (e::es) (ah te t):=ad5 ha hr (bV e es X.env h)
theorem pcB(hc:fZ X (.builtin id) r)(hd:iz X.K r rd)(hg:Gl X x)(hm:X.mg x=none)(hv:bootBuiltins x=some (.builtin id))(ha:PAd X (e::es) t)(hn:x ≠ "__name__":= by decide)(hdb:ND x:=by decide)
  (h1:eF e=false:=by rfl)(h2:(es.all λ e=>!eF e)=true:=by rfl):PD X (.Call (.Name x p) (e::es) [] pos) (dCB rd t):=acR hc hd hg hm hv ha hn hdb (bV e es X.env h1) (cI pos X.env es h2)
theorem pcF(F:bK X.prog X.w X.K X.mg X.base CX0 k f fd ps (dH X.K sp))(hr:eO k X.A)(hg:Gl X x)(hm:X.mg x=some (.ref f))(hk:W.keepIn X.K (.ref f)=true)(hb:Binds X.K fd ps [])
  (ha:PAd X (e::es) t)(hdb:ND x:=by decide)(h1:eF e=false:=by rfl)(h2:(es.all λ e=>!eF e)=true:=by rfl) :
  PD X (.Call (.Name x p) (e::es) [] pos) (bH sp t):=agl F hr hg hm hk hb ha hdb (bV e es X.env h1) (cI pos X.env es h2)
end
structure Jd(p:Prop):Prop where
 h:p
abbrev pm(K:FG)(p:TD×TD):TE×TE:=(up K p.1,up K p.2)
section
variable {X:Cx}{pos:Pos}{a b c e:Expr}{ta tb tc te:TD}{K:FG}
theorem dvQ(i:Nat)(hN:X.N[i]? =some x:=by rfl)(hv:Vis X.env.scope x:=by first | exact Or.inl rfl | exact Or.inr (Or.inl rfl) | exact Or.inr (Or.inr rfl))(hd:ND x:=by decide)(hcd:(x==("__classdict__" : Str))=false:=by decide):Jd (PD X (.Name x pos) (aj i)):=⟨ajS (ab1 hN hv hd hcd)⟩
theorem ai{i j pos}:Jd (PD X (.Constant (.int i) j pos) (dC (.d (.int i)))):=⟨agg ajZ λ H=>by simp[aQ,aN]⟩
theorem jJ{b j pos}:Jd (PD X (.Constant (.bool b) j pos) (dC (.d (.bool b)))):=⟨agg akC λ H=>by simp[aQ,aN]⟩
theorem fI{j pos}:Jd (PD X (.Constant .none j pos) (dC (.d .none))):=⟨agg ajz λ H=>by simp[aQ,aN]⟩
theorem ag{x j pos}:Jd (PD X (.Constant (.str x) j pos) (dC (.d (.str x)))):=⟨agg aih λ H=>by simp[aQ,aN]⟩
theorem km(hg:Gl X x)(hm:X.mg x=some (.int i t))(hd:ND x:=by decide):Jd (PD X (.Name x pos) (dC (.d (.int i)))):=⟨agg (jw (v:=.int i) hg hm ⟨t,rfl⟩ hd) λ H=>by simp[aQ,aN]⟩
theorem gM(hg:Gl X x)(hm:X.mg x=none)(hv:bootBuiltins x=some (.type n))(hn:x ≠ "__name__":= by decide)(hd:ND x:=by decide):Jd (PD X (.Name x pos) (dC (.t n))):=⟨
 agg (afO (v:=.ty n) hg hm hv rfl hn hd) λ H=>by simp[aQ]⟩
theorem cp(ho:OpR X (binaryOp op) r)(hd:OpD X.K r rd)(ha:Jd (PD X a ta))(hb:Jd (PD X b tb)):Jd (PD X (.BinOp a op b pos) (dOp rd ta tb)):=⟨D.alf (ho:=ho) (hd:=hd) (ha:=ha.h) (hb:=hb.h)⟩
theorem q8(ho:OpR X (compareOp op) r)(hd:OpD X.K r rd)(ha:Jd (PD X a ta))(hb:Jd (PD X b tb))(hm:behindInMarks op b=false:=by first | exact jY _ (by decide) (by decide) | rfl):Jd (PD X (.Compare a [op] [b] pos) (dOp rd ta tb)):=⟨D.aji (ho:=ho) (hd:=hd) (ha:=ha.h) (hb:=hb.h) (hm:=hm)⟩
theorem aF(hr:IxR X r)(hd:OpD X.K r rd)(ha:Jd (PD X a ta))(hb:Jd (PD X b tb))(hs:vM b:=by intro _ _;rfl):Jd (PD X (.Subscript a b pos) (dOp rd ta tb)):=⟨D.aly (hr:=hr) (hd:=hd) (ha:=ha.h) (hb:=hb.h) (hs:=hs)⟩
theorem au(ho:OpR X (compareOp op) r)(hd:OpD X.K r rd)(ha:Jd (PD X a ta))(hb:Jd (PD X b tb))(hm:behindInMarks op b=false:=by first | exact jY _ (by decide) (by decide) | rfl):Jd (PTd X (.Compare a [op] [b] pos) (aJ (dOp rd ta tb))):=⟨D.aha (ho:=ho) (hd:=hd) (ha:=ha.h) (hb:=hb.h) (hm:=hm)⟩
theorem cU(h:Jd (PD X e te))(he:∀ whole,isTrue e X.env whole=(do let v <- whole;standAt e.pos;holding [v] (truthy v)):=by intro _;rfl):Jd (PTd X e (aJ te)):=⟨D.agA (h:=h.h) (he:=he)⟩
theorem tR(ho:OpR X (compareOp op) r)(hd:OpD X.K r rd)(ho':OpR X (compareOp op') r')(hd':OpD X.K r' rd')(ha:Jd (PD X a ta))(hb:Jd (PD X b tb))(hc:Jd (PD X c tc))(hm:lastMarks [op,op'] [b,c]=false:=by with_unfolding_all rfl):Jd (PD X (.Compare a [op,op'] [b,c] pos) (lT rd rd' ta tb tc)):=⟨D.ads (ho:=ho) (hd:=hd) (ho':=ho') (hd':=hd') (ha:=ha.h) (hb:=hb.h) (hc:=hc.h) (hm:=hm)⟩
theorem yB(ho:OpR X (compareOp op) r)(hd:OpD X.K r rd)(ho':OpR X (compareOp op') r')(hd':OpD X.K r' rd')(ha:Jd (PD X a ta))(hb:Jd (PD X b tb))(hc:Jd (PD X c tc))(hm:lastMarks [op,op'] [b,c]=false:=by with_unfolding_all rfl):Jd (PTd X (.Compare a [op,op'] [b,c] pos) (aJ (lT rd rd' ta tb tc))):=⟨D.abV (ho:=ho) (hd:=hd) (ho':=ho') (hd':=hd') (ha:=ha.h) (hb:=hb.h) (hc:=hc.h) (hm:=hm)⟩
variable {tA tB:TTd}{rest:List Expr}
theorem dq(ha:Jd (PTd X a tA)):Jd (PWd X (.BoolOp .And [a] pos) tA):=⟨D.acV (ha:=ha.h)⟩
theorem ia(ha:Jd (PTd X a tA)):Jd (PWd X (.BoolOp .Or [a] pos) tA):=⟨D.ags (ha:=ha.h)⟩
theorem eu(ha:Jd (PTd X a tA))(hb:Jd (PWd X (.BoolOp .And (b::rest) pos) tB)):Jd (PWd X (.BoolOp .And (a::b::rest) pos) (vC tA tB)):=⟨D.af1 (ha:=ha.h) (hb:=hb.h)⟩
theorem hW(ha:Jd (PTd X a tA))(hb:Jd (PWd X (.BoolOp .Or (b::rest) pos) tB)):Jd (PWd X (.BoolOp .Or (a::b::rest) pos) (dOr tA tB)):=⟨D.ajO (ha:=ha.h) (hb:=hb.h)⟩
theorem eE(h:Jd (PWd X e tA)):Jd (PTd X e tA):=⟨D.alm (h:=h.h)⟩
theorem dO(ha:Jd (PTd X a tA)):Jd (PTd X (.UnaryOp .Not a pos) (wg tA)):=⟨D.agd (ha:=ha.h)⟩
theorem qU{op}(h:Jd (PD X a ta)):Jd (PD X (.BoolOp op [a] pos) ta):=⟨D.ajL (h:=h.h)⟩
theorem xf(ha:Jd (PD X a ta))(hb:Jd (PD X (.BoolOp .And (b::rest) pos) tb)):Jd (PD X (.BoolOp .And (a::b::rest) pos) (abk ta tb)):=⟨D.aiz (ha:=ha.h) (hb:=hb.h)⟩
theorem ah3(ha:Jd (PD X a ta))(hb:Jd (PD X (.BoolOp .Or (b::rest) pos) tb)):Jd (PD X (.BoolOp .Or (a::b::rest) pos) (aln ta tb)):=⟨D.als (ha:=ha.h) (hb:=hb.h)⟩
theorem afn(ha:Jd (PD X a ta)):Jd (PD X (.UnaryOp .Not a pos) (afL ta)):=⟨D.aiV (ha:=ha.h)⟩
variable {es:List Expr}{t:TAd}
theorem aa  : Jd (PAd X [] aI):=⟨D.mN ⟩
theorem cG(h:Jd (PAd X es t)):Jd (PD X (.List es pos) (jF t)):=⟨D.ai1 (h:=h.h)⟩
theorem dF(h:Jd (PAd X es t)):Jd (PD X (.List es pos) (fX t)):=⟨D.afi (h:=h.h)⟩
theorem bc{x1}(h:Jd (PAd X es t)):Jd (PD X (.Tuple es x1 pos) (eo t)):=⟨D.ah0 (h:=h.h)⟩
variable {x:Str}{p:Pos}{id T:String}{r:List V->Hp->VK->Prop}{rd:List W->MH->QD->Prop}
end
section
variable {X:Cx}{pos:Pos}{st:Stmt}{sts:List Stmt}{t u:TSd}{e:Expr}{te:TD}{K:FG}
theorem ax  : Jd (pU X [] bx):=⟨ajW afa λ D σ H ⟨τ,M,Dd,A,h,k1,_⟩=>k1 σ H τ M (Kp.refl H) A h⟩
theorem af(h1:Jd (PSd X st t))(h2:Jd (pU X sts u)):Jd (pU X (st::sts) (bA t u)):=⟨D.abh (h1:=h1.h) (h2:=h2.h)⟩
theorem ae(h1:Jd (PSd X st t)):Jd (pU X [st] t):=⟨D.acE (h1:=h1.h)⟩
theorem bz(he:Jd (PD X e te))(hs:swapsWith e none pos.line X.env=pure false:=by rfl):Jd (PSd X (.Expr e pos) (eL te)):=⟨D.acT (he:=he.h) (hs:=hs)⟩
theorem av(he:Jd (PD X e te)):Jd (PSd X (.Return (some e) pos) (cF te)):=⟨D.agq (he:=he.h)⟩
theorem tT  : Jd (PSd X (.Return none pos) ahj):=⟨wB agP λ D σ H ⟨τ,M,Dd,A,h,k1,k2,_⟩=>k2 _ H _ M (Kp.refl H) (by simp[aQ,aN]) A.mem h⟩
theorem aC(hc:Jd (PTd X c tc))(ha:Jd (pU X a t))(hb:Jd (pU X b u)):Jd (PSd X (.If c a b pos) (dIf tc t u)):=⟨D.ahL (hc:=hc.h) (ha:=ha.h) (hb:=hb.h)⟩
theorem aM(hN:X.N.Nodup)(hi:X.N[i]? =some x)(hx:Loc X.env.scope x)(hf:X.fn x=true\/X.env.scope.names.lookup x=some .local:=by first | exact .inl rfl | exact .inr rfl | assumption):Jd (PGd X (.Name x pos) (gN i)):=⟨
 akk (aaM hN hi hx hf) λ v σ H Q ⟨w,τ,M,Qd,r,A,h,k⟩=>k _ H _ M (Kp.refl H) (A.set i r) h⟩
theorem fw(he:Jd (PD X e te))(hg:Jd (PGd X tg g))(hs:swapsWithSole [tg] e pos.line X.env=pure false:=by rfl)(hw:swappedStores [tg] e X.env=pure none:=by rfl)(h1:(assignEach [tg] X.env).map (·.2)=[assign tg X.env]:=by rfl):Jd (PSd X (.Assign [tg] e pos) (dU te g)):=⟨D.ae8 (he:=he.h) (hg:=hg.h) (hs:=hs) (hw:=hw) (h1:=h1)⟩
theorem aP(hN:X.N.Nodup)(hi:X.N[i]? =some x)(hx:Loc X.env.scope x)(he:Jd (PD X e te))(hs:swapsWith e (some (.Name x pos')) pos.line X.env=pure false:=by rfl)(hf:X.fn x=true\/X.env.scope.names.lookup x=some .local:=by first | exact .inl rfl | exact .inr rfl | assumption):Jd (PSd X (.Assign [.Name x pos'] e pos) (dU te (gN i))):=⟨D.ag4 (hN:=hN) (hi:=hi) (hx:=hx) (he:=he.h) (hs:=hs) (hf:=hf)⟩
end
theorem cv  : Jd (POd X none dJ):=⟨amf af0 λ σ H Q ⟨τ,M,Qd,A,q,k⟩=>k none H M (Kp.refl H) A.mem q⟩
theorem cw(h:Jd (PD X e te)):Jd (POd X (some e) (iO te)):=⟨D.adQ (h:=h.h)⟩
theorem cu{te:TD}{lo hi:Option Expr}{tl th:TOd}{pos p2:Pos}(he:Jd (PD X e te))(hl:Jd (POd X lo tl))(hu:Jd (POd X hi th)):Jd (PD X (.Subscript e (.Slice lo hi none p2) pos) (dSl te tl th)):=⟨D.adj (he:=he.h) (hl:=hl.h) (hu:=hu.h)⟩
theorem sf(ho:Jd (PD X o to))(hi:Jd (PD X i ti))(ha:∀ v,assign (.Subscript o i pos) X.env v=(do
   let ov <- holding [v] (eval o X.env)
   let iv <- holding [v,ov] (eval i X.env)
   standAt pos
   holding [v,ov,iv] (setItem ov iv v)
   release [v,ov,iv] []):=by intro _;rfl):Jd (PGd X (.Subscript o i pos) (ac1 to ti)):=⟨D.ahc (ho:=ho.h) (hi:=hi.h) (ha:=ha)⟩
theorem aca(ho:Jd (PD X o to))(hi:Jd (PD X i ti))(he:Jd (PD X e te))(hp:PIp X op (ipI f))(ha:∀ ov iv new,augStore i ov iv new=(do holding [new,ov,iv] (setItem ov iv new);release [new,ov,iv] [];pure .next):=by intros;rfl):Jd (PSd X (.AugAssign (.Subscript o i tpos) op e pos) (acO to ti te f)):=⟨D.acX (ho:=ho.h) (hi:=hi.h) (he:=he.h) (hp:=hp) (ha:=ha)⟩
theorem bM(h:Jd (PD X l te)):Jd (PId X tg l (eG te)):=⟨D.zW (h:=h.h)⟩
theorem jT(hp:PassesOwn (model X.prog X.w) X.A X.env X.xe)(hc:X.calm=true)(hi:Jd (PId X tg iter di))(hg:Jd (PGd X tg g))(hb:Jd (pU X body tb))(hs:∀ x,foldedSetIterable iter X.env x=pure x:=by intro _;rfl):Jd (PSd X (.For tg iter body [] pos) (ag3 di g tb)):=⟨D.agO (hp:=hp) (hc:=hc) (hi:=hi.h) (hg:=hg.h) (hb:=hb.h) (hs:=hs)⟩
theorem fY  : Jd (acM X [] adb):=⟨λ pins s σ H Q I ⟨τ,M,Qd,A,q,k⟩=>agb pins s σ H Q I (k true H M (Kp.refl H) A.mem q)⟩
theorem e8(h:Jd (PTd X c t)):Jd (acM X [c] t):=⟨D.ac3 (h:=h.h)⟩
theorem iP(hc:X.calm=true)(L:yK X sc own fr)(hi:Jd (PId X tg iter di))(hg:∀ cl C s H ex pl,Jd (PGd (blk X sc (lcN X own fr) cl C s H ex pl) tg g))(ht:∀ cl C s H ex pl,Jd (acM (blk X sc (lcN X own fr) cl C s H ex pl) ifs tt))(he:∀ cl C s H ex pl,Jd (PD (blk X sc (lcN X own fr) cl C s H ex pl) elt te))(hs:∀ x,foldedSetIterable iter X.env x=pure x:=by intro _;rfl):Jd (PD X (.ListComp elt [⟨tg,iter,ifs,0⟩] sc pos) (dLC di g tt te own.length fr)):=⟨D.ak8 (hc:=hc) (L:=L) (hi:=hi.h) (hg:=λ cl C s H ex pl=>(hg cl C s H ex pl).h) (ht:=λ cl C s H ex pl=>(ht cl C s H ex pl).h) (he:=λ cl C s H ex pl=>(he cl C s H ex pl).h) (hs:=hs)⟩
theorem qJ(hN:X.N.Nodup)(hi':X.N[i]? =some x)(hx:Loc X.env.scope x)(hc:X.calm=true)(L:yK X sc own fr)(hi:Jd (PId X tg iter di))(hg:∀ cl C s H ex pl,Jd (PGd (blk X sc (lcN X own fr) cl C s H ex pl) tg g))(ht:∀ cl C s H ex pl,Jd (acM (blk X sc (lcN X own fr) cl C s H ex pl) ifs tt))(he:∀ cl C s H ex pl,Jd (PD (blk X sc (lcN X own fr) cl C s H ex pl) elt te))(hsw:swapsWith (.ListComp elt [⟨tg,iter,ifs,0⟩] sc pos) (some (.Name x pos')) spos.line X.env=pure true:=by rfl)(hs:∀ x,foldedSetIterable iter X.env x=pure x:=by intro _;rfl)(hf:X.fn x=true\/X.env.scope.names.lookup x=some .local:=by first | exact .inl rfl | exact .inr rfl | assumption):Jd (PSd X (.Assign [.Name x pos'] (.ListComp elt [⟨tg,iter,ifs,0⟩] sc pos) spos) (dU (dLC di g tt te own.length fr) (gN i))):=⟨D.aah (hN:=hN) (hi':=hi') (hx:=hx) (hc:=hc) (L:=L) (hi:=hi.h) (hg:=λ cl C s H ex pl=>(hg cl C s H ex pl).h) (ht:=λ cl C s H ex pl=>(ht cl C s H ex pl).h) (he:=λ cl C s H ex pl=>(he cl C s H ex pl).h) (hsw:=hsw) (hs:=hs) (hf:=hf)⟩
theorem kg(h:Jd (PPs X pos keys values (trs.map (pm X.K))))(hall:keys.all (·.isSome)=true:=by rfl)(hl:keys.length=values.length:=by rfl)(h0:keys≠[]:=by simp)(h15:keys.length<=15:=by decide):Jd (PD X (.Dict keys values pos) (vX trs)):=⟨D.age (h:=h.h) (hall:=hall) (hl:=hl) (h0:=h0) (h15:=h15)⟩
section
variable {X:Cx}{pos p:Pos}{e:Expr}{es:List Expr}{te:TD}{t:TAd}{x:Str}{id T:String}{r:List V->Hp->VK->Prop}{rd:List W->MH->QD->Prop}{k:Nat}{f:Addr}{fd:FuncData}{ps:List Str}{sp:SpD}
theorem az(ha:Jd (PD X e te))(hr:Jd (PAd X es t))(h:eF e=false:=by rfl):Jd (PAd X (e::es) (ah te t)):=⟨D.pac (ha:=ha.h) (hr:=hr.h) (h:=h)⟩
theorem mL(hc:fZ X (.builtin id) r)(hd:iz X.K r rd)(hg:Gl X x)(hm:X.mg x=none)(hv:bootBuiltins x=some (.builtin id))(ha:Jd (PAd X (e::es) t))(hn:x ≠ "__name__":= by decide)(hdb:ND x:=by decide)(h1:eF e=false:=by rfl)(h2:(es.all λ e=>!eF e)=true:=by rfl):Jd (PD X (.Call (.Name x p) (e::es) [] pos) (dCB rd t)):=⟨D.pcB (hc:=hc) (hd:=hd) (hg:=hg) (hm:=hm) (hv:=hv) (ha:=ha.h) (hn:=hn) (hdb:=hdb) (h1:=h1) (h2:=h2)⟩
theorem gv(F:bK X.prog X.w X.K X.mg X.base CX0 k f fd ps (dH X.K sp))(hr:eO k X.A)(hg:Gl X x)(hm:X.mg x=some (.ref f))(hk:W.keepIn X.K (.ref f)=true)(hb:Binds X.K fd ps [])(ha:Jd (PAd X (e::es) t))(hdb:ND x:=by decide)(h1:eF e=false:=by rfl)(h2:(es.all λ e=>!eF e)=true:=by rfl):Jd (PD X (.Call (.Name x p) (e::es) [] pos) (bH sp t)):=⟨D.pcF (F:=F) (hr:=hr) (hg:=hg) (hm:=hm) (hk:=hk) (hb:=hb) (ha:=ha.h) (hdb:=hdb) (h1:=h1) (h2:=h2)⟩
end
theorem d9:Jd (PPs X pos [] [] (([]:List (TD×TD)).map (pm X.K))):=⟨L2.afT⟩
theorem aK(hk:Jd (PD X k tk))(hv:Jd (PD X v tv))(hr:Jd (PPs X pos ks vs (trs.map (pm X.K)))):Jd (PPs X pos (some k::ks) (v::vs) (((tk,tv)::trs).map (pm X.K))):=⟨L2.adu hk.h hv.h hr.h⟩
section
variable {κ α:Type}[DecidableEq κ]
def lA(t:List (κ×α))(k:κ):Option α:=(t.find? λ p=>decide (p.1=k)).map (·.2)
def acy(t:List (κ×α))(k:κ)(v:α):List (κ×α):=if (t.any λ p=>decide (p.1=k))=true then t.map (λ p=>if p.1=k then (p.1,v) else p) else t++[(k,v)]
def OR(R:β->γ->Prop):Option β->Option γ->Prop
 | some a,some b=>R a b
 | none,none=>True
 | _,_=>False
theorem OR.some_of(h:OR R (some a) o):∃ b,o=some b/\R a b:=by
 cases o with
 | none=>exact h.elim
 | some b=>exact⟨b,rfl,h⟩
theorem OR.none_of(h:OR R none o):o=none:=by
 cases o with
 | none=>rfl
 | some b=>exact h.elim
theorem OR.isSome:∀ {a:Option β} {o:Option γ},OR R a o->a.isSome=o.isSome
 | some _,some _,_=>rfl
 | none,none,_=>rfl
 | some _,none,h=>h.elim
 | none,some _,h=>h.elim
theorem oQ(k:κ):∀ {t:List (κ×α)} {l:List (κ×V)},Paired (λ p q=>p.1=q.1/\R p.2 q.2) t l->OR R (lA t k) (nO l k)
 | _,_,.nil=>True.intro
 | _,_,.cons (a:=p) (b:=q) (l₁:=t1) h t=>by
  obtain⟨h1,h2⟩:=h
  by_cases e:p.1=k
  ·rw[i8 (h1.symm.trans e),show lA (p::t1) k=some p.2 by simp[lA,List.find?_cons,e]];exact h2
  ·rw[i7 (λ z=>e (h1.trans z)),show lA (p::t1) k=lA t1 k by simp[lA,List.find?_cons,e]];exact oQ k t
theorem aeD{R:α->V->Prop}(k:κ):∀ {t:List (κ×α)} {l:List (κ×V)},Paired (λ p q=>p.1=q.1/\R p.2 q.2) t l->(t.any λ p=>decide (p.1=k))=(l.any λ p=>decide (p.1=k))
 | _,_,.nil=>rfl
 | _,_,.cons (a:=p) (b:=q) h t=>by simp only[List.any_cons];rw[aeD k t,h.1]
theorem aeO{R:α->V->Prop}(k:κ){v:V}(r:R a v):∀ {t:List (κ×α)} {l:List (κ×V)},Paired (λ p q=>p.1=q.1/\R p.2 q.2) t l ->
  Paired (λ p q=>p.1=q.1/\R p.2 q.2) (t.map λ p=>if p.1=k then (p.1,a) else p) (l.map λ p=>if p.1=k then (p.1,v) else p)
 | _,_,.nil=>.nil
 | _,_,.cons (a:=p) (b:=q) h t=>by
  simp only[List.map_cons];refine .cons ?_ (aeO k r t)
  by_cases e:p.1=k
  ·rw[if_pos e,if_pos (h.1.symm.trans e)];exact⟨h.1,r⟩
  ·rw[if_neg e,if_neg (λ z=>e (h.1.trans z))];exact h
theorem aak(r:P p q):∀ {t:List (κ×α)} {l:List (κ×V)},Paired P t l->Paired P (t++[p]) (l++[q])
 | _,_,.nil=>.cons r .nil
 | _,_,.cons h t=>.cons h (aak r t)
theorem ajs{R:α->V->Prop}(k:κ){v:V}(r:R a v){t:List (κ×α)}{l:List (κ×V)}(h:Paired (λ p q=>p.1=q.1/\R p.2 q.2) t l) :
  Paired (λ p q=>p.1=q.1/\R p.2 q.2) (acy t k a) (putK l k v):=by
 unfold acy putK;rw[aeD k h]
 split
 ·exact aeO k r h
 ·exact aak ⟨rfl,r⟩ h
theorem zU:∀ {t:List (κ×α)} {l:List (κ×V)},Paired P t l->t.length=l.length
 | _,_,.nil=>rfl
 | _,_,.cons _ t=>by simp[zU t]
end
def kW(k:Key):W:=.d (tE k)
theorem om{K:FG}{H:Hp}{k:Key}{v:V}(r:aQ K H (kW k) v):v=kV k:=wC r
def tkW(ks:List Key):W:=.d (.tuple (ks.map tE))
theorem aii{K:FG}{H:Hp}:∀ {ks:List Key} {vs:List V},bJ K H (ks.map tE) vs->vs=ks.map kV
 | [],vs,h=>by simpa [bJ] using h
 | k::ks,vs,h=>by simp only[List.map_cons,bJ] at h;obtain⟨v,r,e,h1,h2⟩:=h;rw[e,wC h1,aii h2];rfl
def Rd2(H:Hp)(a:Addr)(u:HO):Prop:=Rd H a u\/∃ o,H a=some (.frz o (.frz o u))
theorem aaP(ok:HOk P w H h)(e:Rd2 H a (.dK kvs)):kvs.length<=sizeLine/\(a==sysModules)=false/\∃ vs,KV kvs vs/\h.DictOf (bt P w) a vs:=by
 rcases e with e | ⟨o,e⟩
 ·exact yF ok e
 ·exact(ok a _ e).2.2
def zZ(K:FG)(H:Hp)(a:Addr)(y:V)(r:Option V):Prop:=
 (∃ kvs k,Rd2 H a (.dK kvs)/\y=kV k/\r=nO kvs k)\/∃ kvs k b,Rd H a (.dT kvs)/\y=.ref b/\SqT K H b (k.map kV)/\r=nO kvs k
theorem aeV(I:Inv X pins σ H s)(h:SqT X.K H b (ks.map kV)):(tupleKind (bt X.prog X.w)).is s.heap ks b:=by obtain⟨its,r,⟨o,h1,h2,n,h3⟩,_⟩:=I.tuple h;exact⟨o,its.toArray,n,h1,h2,h3,by simpa using mV r⟩
theorem akI(hu:A.units+1<cLine)(I:Inv X pins σ H s)(g:zZ X.K H a y o)(ry:RelV y u)(h:∀ s',Inv X pins σ H s'->Q (.bool o.isSome) s') :
  wpAny (model X.prog X.w) A (compareOp .In u (.ref a)) Q E s:=by
 rcases g with ⟨kvs,k,e,ey,l⟩ | ⟨kvs,k,b,e,ey,eb,l⟩
 ·subst ey;obtain⟨z,hd,vs,rel,dd⟩:=aaP I.hok e;refine wpAny_in_of (nU ry) hd dd.mapOf ?_;rw[<- (rel.val k).fW,<- l];exact h _ (I.tok _)
 ·subst ey;cases (show u=Value.ref b from ry);obtain⟨z,hd,xs,rel,dd⟩:=afe I.hok e;refine wpAny_in_heap (tupleKind_room_in1 hu) (aeV I eb) hd dd ?_;have q:=(rel.val k).fW;rw[Option.isSome_map] at q;rw[<- q,<- l];exact h _ (I.tok _)
theorem adw(hu:A.units+1<cLine)(I:Inv X pins σ H s)(g:zZ X.K H a y o)(ry:RelV y u)(h:∀ s',Inv X pins σ H s'->Q (.bool (!o.isSome)) s') :
  wpAny (model X.prog X.w) A (compareOp .NotIn u (.ref a)) Q E s:=by
 rcases g with ⟨kvs,k,e,ey,l⟩ | ⟨kvs,k,b,e,ey,eb,l⟩
 ·subst ey;obtain⟨z,hd,vs,rel,dd⟩:=aaP I.hok e;refine wpAny_notIn_of (nU ry) hd dd.mapOf ?_;rw[<- (rel.val k).fW,<- l];exact h _ (I.tok _)
 ·subst ey;cases (show u=Value.ref b from ry);obtain⟨z,hd,xs,rel,dd⟩:=afe I.hok e;refine wpAny_notIn_heap (tupleKind_room_in1 hu) (aeV I eb) hd dd ?_;have q:=(rel.val k).fW;rw[Option.isSome_map] at q;rw[<- q,<- l];exact h _ (I.tok _)
theorem yN(hu:A.units+1<cLine)(I:Inv X pins σ H s)(e:Rd2 H a (.dK kvs))(l:nO kvs k=some v)(ry:RelV (kV k) u)(h:∀ w' s',Inv X pins σ H s'->RelV v w'->Q w' s') :
  s.TypeIs (.ref a) "dict" /\ wpAny (model X.prog X.w) A (getItem (.ref a) u) Q E s:=by
 obtain⟨z,hd,vs,rel,dd⟩:=aaP I.hok e;obtain⟨w',hw,rw'⟩:=pA.some_of (v:=v) (o:=valueAt vs k) (by rw[<- l];exact rel.val k);exact⟨dd.typeIs,wpAny_getItem_of (nU ry) dd.mapOf hw (h w' _ (I.tok _) rw')⟩
inductive uC(M:MH):W->W->Option W->Prop
 | k {a:Addr} {kvs:List (Key×W)} {k:Key} (h:M a=some (.dic kvs)):uC M (.m a) (kW k) (lA kvs k)
 | t {a:Addr} {kvs:List (List Key×W)} {ks:List Key} (h:M a=some (.dct kvs)):uC M (.m a) (tkW ks) (lA kvs ks)
 | f {a:Addr} {kvs:List (Key×W)} {k:Key} (h:M a=some (.fdic kvs)):uC M (.m a) (kW k) (lA kvs k)
 | d {kvs:List (Key×PyData)} {k:Key}:uC M (.d (.dict (kvs.map λ p=>(tE p.1,p.2)))) (kW k) ((lA kvs k).map W.d)
theorem adX(h:tE a=tE b):a=b:=by
 cases a<;>cases b<;>simp[tE] at h<;>rw[h]
theorem jv{K:FG}{H:Hp}:∀ {kvs:List (Key×PyData)} {l:List (Key×V)},l4 K H (kvs.map λ p=>(tE p.1,p.2)) l->Paired (λ(p:Key×PyData) (q:Key×V)=>p.1=q.1/\aN K H p.2 q.2) kvs l
 | [],l,h=>by simp only[List.map_nil,l4] at h;subst h;exact .nil
 | p::kvs,l,h=>by simp only[List.map_cons,l4] at h;obtain⟨key,v,r,e,ek,h1,h2⟩:=h;subst e;exact .cons ⟨adX ek,h1⟩ (jv h2)
theorem uC.sound{K:FG}{H:Hp}{M:MH}{w y:W}{o:Option W}{x v:V}(g:uC M w y o)(r:aQ K H w x)(ry:aQ K H y v)(m:cX K H M) :
  ∃ a p,x=.ref a/\zZ K H a v p/\OR (aQ K H) o p:=by
 cases g with
 | @k a kvs k h =>
  obtain⟨l,e,pr⟩:=m _ _ h;exact⟨_,_,r,.inl ⟨l,k,.inl (.inl e),om ry,rfl⟩,oQ k pr⟩
 | @f a kvs k h =>
  obtain⟨ob,l,e,pr⟩:=m _ _ h;exact⟨_,_,r,.inl ⟨l,k,.inr ⟨ob,e⟩,om ry,rfl⟩,oQ k pr⟩
 | @t a kvs ks h =>
  obtain⟨l,e,pr⟩:=m _ _ h;simp only[tkW,aQ,aN] at ry;obtain⟨b,vs,eb,hs,ra⟩:=ry;rw[aii ra] at hs;exact⟨_,_,r,.inr ⟨l,ks,b,.inl e,eb,hs,rfl⟩,oQ ks pr⟩
 | @d kvs k =>
  simp only[aQ,aN] at r;obtain⟨a,ob,l,e,h,rk⟩:=r;refine⟨a,_,e,.inl ⟨l,k,.inl (.inr ⟨ob,h⟩),om ry,rfl⟩,?_⟩;have g:=oQ (R:=λ d q=>aN K H d q) k (jv rk);cases q:lA kvs k with
  | none=>rw[q] at g;rw[OR.none_of g];exact True.intro
  | some z =>
   rw[q] at g;obtain⟨b,eb,rb⟩:=OR.some_of g;rw[eb];exact rb
def aiI(K:FG)(ty td:TE):TE:=λ σ H Q=>ty σ H λ y H1=>td σ H1 λ x H2=>∃ a o,x=.ref a/\zZ K H2 a y o/\Q (.bl o.isSome) H2
def yt(K:FG)(ty td:TE):TE:=λ σ H Q=>ty σ H λ y H1=>td σ H1 λ x H2=>∃ a o,x=.ref a/\zZ K H2 a y o/\Q (.bl (!o.isSome)) H2
theorem afu(hu:X.A.units+1<cLine)(hi:PE X i ty)(ho:PE X o td):PC X .In i o (aiI X.K ty td):=by intro pins s σ H Q I h;refine thn (hi pins s σ H _ I h) λ iv s1 ⟨y,H1,I1,ry,q1⟩=>thn (ho pins s1 σ H1 _ I1 q1) λ u s2 hq57=>?_;obtain⟨x,H2,I2,rx,a,ov,ex,g,q2⟩:=hq57;subst ex;obtain rfl:u=Value.ref a:=rx;exact akI hu I2 g ry λ s3 I3=>⟨.bl ov.isSome,H2,I3,rfl,q2⟩
theorem yU(hu:X.A.units+1<cLine)(hi:PE X i ty)(ho:PE X o td):PC X .NotIn i o (yt X.K ty td):=by intro pins s σ H Q I h;refine thn (hi pins s σ H _ I h) λ iv s1 ⟨y,H1,I1,ry,q1⟩=>thn (ho pins s1 σ H1 _ I1 q1) λ u s2 hq58=>?_;obtain⟨x,H2,I2,rx,a,ov,ex,g,q2⟩:=hq58;subst ex;obtain rfl:u=Value.ref a:=rx;exact adw hu I2 g ry λ s3 I3=>⟨.bl (!ov.isSome),H2,I3,rfl,q2⟩
def aiK(td ty:TE):TE:=λ σ H Q=>td σ H λ x H1=>ty σ H1 λ y H2=>∃ a kvs k v,x=.ref a/\Rd2 H2 a (.dK kvs)/\y=kV k/\nO kvs k=some v/\Q v H2
theorem ac4(hu:X.A.units+1<cLine)(ho:PE X o td)(hi:PE X i ty)(hs:ad4 i):PE X (.Subscript o i pos) (aiK td ty):=by intro pins s σ H Q I h;refine w9 PySem.F.slot_dict_getitem.lookup hs (thn (ho pins s σ H _ I h) λ u s1 ⟨x,H1,I1,rx,q1⟩=>thn (hi pins s1 σ H1 _ I1 q1) λ iv s2 hq59=>?_);obtain⟨y,H2,I2,ry,a,kvs,k,v,ex,g,ey,l,q2⟩:=hq59;subst ex ey;obtain rfl:u=Value.ref a:=rx;exact yN hu I2 g l ry λ w' s3 I3 rw'=>⟨v,H2,I3,rw',q2⟩
section
variable {X:Cx}{o i e f value:Expr}{es:List Expr}{pos pos' apos cpos:Pos}{td ti tx tv:TD}{t:TAd}
def rh(_:DS)(M:MH)(Q:QD):Prop:=∀ p,M p=none->Q (.m p) (bC M p (.dic []))
def ajM(ti td:TD)(τ:DS)(M:MH)(Q:QD):Prop:=ti τ M λ y M1=>td τ M1 λ w M2=>∃ o,uC M2 w y o/\Q (.d (.bool o.isSome)) M2
def sj(ti td:TD)(τ:DS)(M:MH)(Q:QD):Prop:=ti τ M λ y M1=>td τ M1 λ w M2=>∃ o,uC M2 w y o/\Q (.d (.bool (!o.isSome))) M2
theorem agG{σ:St}{H:Hp}{Q:VK}(h:up X.K (ajM ti td) σ H Q):aiI X.K (up X.K ti) (up X.K td) σ H Q:=by obtain⟨τ,M,Qd,A,h,k⟩:=h;refine⟨τ,M,_,A,h,λ y H1 wy M1 kp1 r1 m1 q1=>⟨τ,M1,_,A.go kp1 m1,q1,λ x H2 w M2 kp2 r2 m2 hq60=>?_⟩⟩;obtain⟨o,g,q2⟩:=hq60;obtain⟨a,p,e,g',ro⟩:=g.sound r2 (r1.keep kp2) m2;refine⟨a,p,e,g',?_⟩;rw[<- ro.isSome];exact k _ H2 (.d (.bool _)) M2 (kp1.trans kp2) (by simp[aQ,aN]) m2 q2
theorem yT{σ:St}{H:Hp}{Q:VK}(h:up X.K (sj ti td) σ H Q):yt X.K (up X.K ti) (up X.K td) σ H Q:=by obtain⟨τ,M,Qd,A,h,k⟩:=h;refine⟨τ,M,_,A,h,λ y H1 wy M1 kp1 r1 m1 q1=>⟨τ,M1,_,A.go kp1 m1,q1,λ x H2 w M2 kp2 r2 m2 hq61=>?_⟩⟩;obtain⟨o,g,q2⟩:=hq61;obtain⟨a,p,e,g',ro⟩:=g.sound r2 (r1.keep kp2) m2;refine⟨a,p,e,g',?_⟩;rw[<- ro.isSome];exact k _ H2 (.d (.bool _)) M2 (kp1.trans kp2) (by simp[aQ,aN]) m2 q2
theorem agZ(hu:X.A.units+1<cLine)(hi:PD X i ti)(ho:PD X o td)(hm:behindInMarks .In o=false:=by rfl):PTd X (.Compare i [.In] [o] pos) (aJ (ajM ti td)):=aey (aa4 (afu hu hi ho) hm) λ σ H Q h=>iW (λ σ H Q h=>agG h) h
theorem zB(hu:X.A.units+1<cLine)(hi:PD X i ti)(ho:PD X o td)(hm:behindInMarks .NotIn o=false:=by rfl):PTd X (.Compare i [.NotIn] [o] pos) (aJ (sj ti td)):=aey (aa4 (yU hu hi ho) hm) λ σ H Q h=>iW (λ σ H Q h=>yT h) h
inductive ajY(M2:MH) (w y:W) (Q:QD):Prop
 | mk (a:Addr) (kvs:List (Key×W)) (k:Key) (v:W) (z0:w=.m a) (z1:M2 a=some (.dic kvs)\/M2 a=some (.fdic kvs)) (z2:y=kW k) (z3:lA kvs k=some v) (q:Q v M2):ajY M2 w y Q
def bf(td ti:TD)(τ:DS)(M:MH)(Q:QD):Prop:=td τ M λ w M1=>ti τ M1 λ y M2=>ajY M2 w y Q
theorem af6(hu:X.A.units+1<cLine)(ho:PD X o td)(hi:PD X i ti)(hs:ad4 i:=by exact λ _ _=>rfl):PD X (.Subscript o i pos) (bf td ti):=ie (ac4 hu ho hi hs) λ σ H Q h=>by
 obtain⟨τ,M,Qd,A,h,k⟩:=h;refine⟨τ,M,_,A,h,λ x H1 w M1 kp1 r1 m1 q1=>⟨τ,M1,_,A.go kp1 m1,q1,λ y H2 wy M2 kp2 r2 m2 hq62=>?_⟩⟩;obtain⟨a,kvs,key,v,ew,hm,ey,hv,q2⟩:=hq62;subst ew ey;obtain⟨l,e,pr⟩:∃ l,Rd2 H2 a (.dK l)/\Paired (λ(p:Key×W) (q:Key×V)=>p.1=q.1/\aQ X.K H2 p.2 q.2) kvs l:=by
  rcases hm with hm | hm
  ·obtain⟨l,e,pr⟩:=m2 _ _ hm;exact⟨l,.inl (.inl e),pr⟩
  ·obtain⟨ob,l,e,pr⟩:=m2 _ _ hm;exact⟨l,.inr ⟨ob,e⟩,pr⟩
 have g:=oQ key pr;rw[hv] at g;obtain⟨b,eb,rb⟩:=OR.some_of g;refine⟨a,l,key,b,r1,e,om r2,eb,?_⟩;exact k _ H2 v M2 (kp1.trans kp2) rb m2 q2
def jr(td ti tv:TD)(D:Ed)(τ:DS)(M:MH):Prop:=tv τ M λ v M1=>td τ M1 λ w M2=>ti τ M2 λ y M3=>∃ a kvs k,w=.m a/\M3 a=some (.dic kvs)/\y=kW k/\kvs.length<sizeLine/\D.nx τ (bC M3 a (.dic (acy kvs k v)))
theorem acZ(hu:X.A.units+1<cLine)(ho:PD X o td)(hi:PD X i ti)(hv:PD X value tv)(hs:swapsWith value (some (.Subscript o i pos')) pos.line X.env=pure false:=by rfl) :
  PSd X (.Assign [.Subscript o i pos'] value pos) (jr td ti tv):=wB (agz hu ho hi hv hs) λ D σ H h=>by
 obtain⟨τ,M,Dd,A,h,k1,_⟩:=h;refine⟨τ,M,_,A,h,λ v H1 wv M1 kp1 r1 m1 q1=>⟨τ,M1,_,A.go kp1 m1,q1,λ x H2 w M2 kp2 r2 m2 q2=>⟨τ,M2,_,A.go (kp1.trans kp2) m2,q2,λ y H3 wy M3 kp3 r3 m3 hq63=>?_⟩⟩⟩;obtain⟨a,kvs,key,ew,hm,ey,hl,q3⟩:=hq63;subst ew ey;obtain⟨l,e,pr⟩:=m3 _ _ hm;have kp4:Kp H3 (upd H3 a (.dK (putK l key v))):=Kp.set e (λ _ z=>nomatch z) (λ _ _ z=>nomatch z);refine⟨a,_,r2,.inl ⟨l,key,e,om r3,by rw[<- zU pr];exact hl,rfl⟩,?_⟩;have rv:aQ X.K H3 wv v:=(r1.keep kp2).keep kp3;refine k1 _ _ _ _ (((kp1.trans kp2).trans kp3).trans kp4) (A.go (((kp1.trans kp2).trans kp3).trans kp4) (m3.put (mo:=.dic (acy kvs key wv)) kp4 ⟨_,aA,?_⟩)) q3;exact Paired.lV (ajs key rv pr) λ p q z=>⟨z.1,z.2.keep kp4⟩
end
def sL(f:Str)(v:W):List (Str×W)->List (Str×W)
 | []=>[(f,v)]
 | (g,x)::r=>if g=f then (g,v)::r else (g,x)::sL f v r
abbrev adm(K:FG)(H:Hp):List (Str×W)->List (Str×V)->Prop:=Paired (λ(p:Str×W) (q:Str×V)=>p.1=q.1/\aQ K H p.2 q.2)
theorem fg{K:FG}{H:Hp}(f:Str):∀ {fs:List (Str×W)} {l:List (Str×V)},adm K H fs l->OR (aQ K H) (fs.lookup f) (l.lookup f)
 | _,_,.nil=>True.intro
 | _,_,.cons (a:=p) (b:=q) (l₁:=t1) (l₂:=t2) h t=>by
  obtain⟨pk,pv⟩:=p;obtain⟨qk,qv⟩:=q;obtain⟨h1,h2⟩:=h;have h1':pk=qk:=h1;subst h1';rw[List.lookup_cons,List.lookup_cons];cases e:(f==pk) with
  | true=>exact h2
  | false=>exact fg f t
theorem aeN{K:FG}{H:Hp}(f:Str){w:W}{v:V}(r:aQ K H w v):∀ {fs:List (Str×W)} {l:List (Str×V)},adm K H fs l->adm K H (sL f w fs) (rZ f v l)
 | _,_,.nil=>.cons ⟨rfl,r⟩ .nil
 | _,_,.cons (a:=p) (b:=q) (l₁:=t1) (l₂:=t2) h t=>by
  obtain⟨pk,pv⟩:=p;obtain⟨qk,qv⟩:=q;obtain⟨h1,h2⟩:=h;have h1':pk=qk:=h1;subst h1';show adm K H (if pk=f then (pk,w)::t1 else (pk,pv)::sL f w t1) (if pk=f then (pk,v)::t2 else (pk,qv)::rZ f v t2)
  by_cases e:pk=f
  ·rw[if_pos e,if_pos e];exact .cons ⟨rfl,r⟩ t
  ·rw[if_neg e,if_neg e];exact .cons ⟨rfl,h2⟩ (aeN f r t)
theorem aez{K:FG}{H:Hp}:∀ {fs:List (Str×W)} {l:List (Str×V)},adm K H fs l->fs.length=l.length
 | _,_,.nil=>rfl
 | _,_,.cons _ t=>by simp[aez t]
theorem adm.keep{K:FG}{H H':Hp}(kp:Kp H H'){fs:List (Str×W)}{l:List (Str×V)}(h:adm K H fs l):adm K H' fs l:=Paired.lV h λ p q z=>⟨z.1,z.2.keep kp⟩
section
variable {X:Cx}{C f:Addr}{o e value:Expr}{es:List Expr}{fn m x:Str}{pos pos' apos p:Pos}{td tv te:TD}{t:TAd}{k:Nat}{fd:FuncData}{ps:List Str}{sp:SpD}
inductive amg(C:Addr) (fn:Str) (M1:MH) (w:W) (Q:QD):Prop
 | mk (a:Addr) (fs:List (Str×W)) (v:W) (z0:w=.m a) (z1:M1 a=some (.ins C fs)) (z2:fs.lookup fn=some v) (q:Q v M1):amg C fn M1 w Q
def lp(C:Addr)(td:TD)(fn:Str)(τ:DS)(M:MH)(Q:QD):Prop:=td τ M λ w M1=>amg C fn M1 w Q
theorem aiZ(c:Cls X.K C)(n:cN X.K C fn)(he:PD X e td)(hb:attributeBase e fn X.env (eval e X.env)=eval e X.env:=by rfl):PD X (.Attribute e fn pos) (lp C td fn):=ie (ain he hb) λ σ H Q h=>by obtain⟨τ,M,Qd,A,h,k⟩:=h;refine⟨τ,M,_,A,h,λ x H1 w M1 kp1 r1 m1 hq64=>?_⟩;obtain⟨a,fs,v,ew,hm,hl,q⟩:=hq64;subst ew;obtain⟨dx,l,e,pr⟩:=m1 _ _ hm;have g:=fg fn pr;rw[hl] at g;obtain⟨b,eb,rb⟩:=OR.some_of g;exact⟨a,C,dx,l,b,r1,e,c,n,eb,k _ H1 v M1 kp1 rb m1 q⟩
def gy(C:Addr)(td tv:TD)(fn:Str)(D:Ed)(τ:DS)(M:MH):Prop:=tv τ M λ v M1=>td τ M1 λ w M2=>∃ a fs,w=.m a/\M2 a=some (.ins C fs)/\fs.length<1000/\D.nx τ (bC M2 a (.ins C (sL fn v fs)))
theorem agk(c:Cls X.K C)(n:cN X.K C fn)(ha:PD X o td)(hv:PD X value tv)(hs:swapsWith value (some (.Attribute o fn pos')) pos.line X.env=pure false:=by rfl):PSd X (.Assign [.Attribute o fn pos'] value pos) (gy C td tv fn):=wB (ajd ha hv hs) λ D σ H h=>by obtain⟨τ,M,Dd,A,h,k1,_⟩:=h;refine⟨τ,M,_,A,h,λ v H1 wv M1 kp1 r1 m1 q1=>⟨τ,M1,_,A.go kp1 m1,q1,λ x H2 w M2 kp2 r2 m2 hq65=>?_⟩⟩;obtain⟨a,fs,ew,hm,hl,q2⟩:=hq65;subst ew;obtain⟨dx,l,e,pr⟩:=m2 _ _ hm;have kp4:Kp H2 (upd H2 a (.ins C dx (rZ fn v l))):=Kp.set e (λ _ z=>nomatch z) (λ _ _ z=>nomatch z);refine⟨a,C,dx,l,r2,e,c,n,by rw[<- aez pr];exact hl,?_⟩;refine k1 _ _ _ _ ((kp1.trans kp2).trans kp4) (A.go ((kp1.trans kp2).trans kp4) (m2.put (mo:=.ins C (sL fn wv fs)) kp4 ⟨dx,_,aA,?_⟩)) q2;exact adm.keep kp4 (aeN fn (r1.keep kp2) pr)
inductive aj2(C:Addr) (m:Str) (M1:MH) (w:W) (q:Prop):Prop
 | mk (a:Addr) (fs:List (Str×W)) (z0:w=.m a) (z1:M1 a=some (.ins C fs)) (z2:fs.lookup m=none) (z3:q):aj2 C m M1 w q
def gG(C:Addr)(m:Str)(sp:SpD)(td:TD)(t:TAd)(τ:DS)(M:MH)(Q:QD):Prop:=td τ M λ w M1=>aj2 C m M1 w (t τ M1 λ ws M2=>sp (w::ws) M2 Q)
theorem ad6{σ:St}{H:Hp}{Q:VK}(h:up X.K (gG C m sp td t) σ H Q):agh C m (dH X.K sp) [] E0 (up X.K td) (upA X.K t) σ H Q:=by obtain⟨τ,M,Qd,A,h,k⟩:=h;refine⟨τ,M,_,A,h,λ x H1 w M1 kp1 r1 m1 hq66=>?_⟩;obtain⟨a,fs,ew,hm,hl,q1⟩:=hq66;subst ew;obtain⟨dx,l,e,pr⟩:=m1 _ _ hm;have g:=fg m pr;rw[hl] at g;refine⟨a,dx,l,r1,e,OR.none_of g,τ,M1,_,A.go kp1 m1,q1,λ vs H2 ws M2 kp2 r2 m2 q2=>?_⟩;exact⟨.m a::ws,M2,Qd,by rw[List.append_nil];exact .cons r1 r2,m2,q2,kgo (kgo k kp1) kp2⟩
theorem agX(he:PD X o td)(c:Cls X.K C)(hm:Meth X.K C m f)(F:bK X.prog X.w X.K X.mg X.base CX0 k f fd ps (dH X.K sp))(hr:eO k X.A)(hb:Binds X.K fd ps [])(ha:PAd X (e::es) t)
  (ht:eval (.Call (.Attribute o m apos) (e::es) [] pos) X.env=(do
   let ov <- eval o X.env
   standAt apos.atName
   let (f,first) <- holding [ov] (getMethod ov m pl)
   callWith pos f first (backTo pos (starEach (e::es) X.env)) (backToKw pos (keywordEach [] X.env))):=by rfl)
  (h1:eF e=false:=by rfl)(h2:(es.all λ e=>!eF e)=true:=by rfl):PD X (.Call (.Attribute o m apos) (e::es) [] pos) (gG C m sp td t):=
 ie (afM (E:=E0) (dvs:=[]) he c hm F hr hb .nil aa6 ha (bV e es X.env h1) (cI pos X.env es h2) ht) λ σ H Q h=>ad6 h
theorem ada{pl:Sem Bool}(he:PD X o td)(c:Cls X.K C)(hm:Meth X.K C m f)(F:bK X.prog X.w X.K X.mg X.base CX0 k f fd ps (dH X.K sp))(hr:eO k X.A)(hb:Binds X.K fd ps [])
  (ht:eval (.Call (.Attribute o m apos) [] [] pos) X.env=(do
   let ov <- eval o X.env
   standAt apos.atName
   let (f,first) <- holding [ov] (getMethod ov m pl)
   callWith pos f first (backTo pos (starEach [] X.env)) (backToKw pos (keywordEach [] X.env))):=by rfl):PD X (.Call (.Attribute o m apos) [] [] pos) (gG C m sp td aI):=
 ie (aee (E:=E0) (dvs:=[]) he c hm F hr hb .nil aa6 ht) λ σ H Q h=>by obtain⟨τ,M,Qd,A,h,k⟩:=h;refine⟨τ,M,_,A,h,λ x H1 w M1 kp1 r1 m1 hq67=>?_⟩;obtain⟨a,fs,ew,hm,hl,q1⟩:=hq67;subst ew;obtain⟨dx,l,e,pr⟩:=m1 _ _ hm;have g:=fg m pr;rw[hl] at g;exact⟨a,dx,l,r1,e,OR.none_of g,.m a::[],M1,Qd,.cons r1 .nil,m1,q1,kgo k kp1⟩
theorem acJ{H1:Hp}{M1:MH}{a dx:Addr}(m1:cX X.K H1 M1)(ha:H1 a=none)(hd:H1 dx=none)(hn:dx≠a):Kp H1 (upd (upd H1 dx (.own a)) a (.ins C dx []))/\cX X.K (upd (upd H1 dx (.own a)) a (.ins C dx [])) (bC M1 a (.ins C [])):=by
 have k1:Kp H1 (upd H1 dx (.own a)):=Kp.new hd;have ha2:(upd H1 dx (.own a)) a=none:=by rw[aB (Ne.symm hn)];exact ha
 have k2:Kp (upd H1 dx (.own a)) (upd (upd H1 dx (.own a)) a (.ins C dx [])):=Kp.new ha2;exact⟨k1.trans k2,(m1.new hd).put (mo:=.ins C []) k2 ⟨dx,[],aA,.nil⟩⟩
end
def zL(M:MH)(a:Addr):MH:=λ b=>if b=a then none else M b
theorem af5(h:b≠a):zL M a b=M b:=if_neg h
theorem cX.del{K:FG}{H:Hp}{M:MH}{a:Addr}{o:HO}(m:cX K H M)(kp:Kp H (upd H a o)):cX K (upd H a o) (zL M a):=λ b mo hm=>by
 by_cases e:b=a
 ·subst e;simp[zL] at hm
 ·rw[af5 e] at hm;exact(m b mo hm).keep kp λ u z=>by rw[aB e];exact z
def aiE(R:W->MH->Prop)(ws:List W)(M:MH):Prop:=match ws with
 | [y]=>R y M
 | _=>False
theorem rP(h:aiE R ws M):∃ y,ws=[y]/\R y M:=by
 match ws,h with
 | [y],h=>exact⟨y,rfl,h⟩
def gX(td:TD)(τ:DS)(M:MH)(Q:QD):Prop:=td τ M λ w M1=>∃ a ds,w=.m a/\M1 a=some (.lst (ds.map W.d))/\Q (.d (.list ds)) (zL M1 a)
theorem afs(h:PD X e td):PD X e (gX td):=ie (ub h) λ σ H Q h=>by obtain⟨τ,M,Qd,A,h,k⟩:=h;refine⟨τ,M,_,A,h,λ x H1 w M1 kp1 r1 m1 hq68=>?_⟩;obtain⟨a,ds,ew,hm,q⟩:=hq68;subst ew;obtain⟨vs,e,ra⟩:=m1 _ _ hm;refine⟨a,_,r1,e,trivial,λ ob=>?_⟩;have kp2:Kp H1 (upd H1 a (.frz ob (.lst vs))):=Kp.set e (λ _ z=>nomatch z) (λ _ _ z=>nomatch z);refine k _ _ (.d (.list ds)) (zL M1 a) (kp1.trans kp2) ?_ (m1.del kp2) q;simp only[aQ,aN];exact⟨a,vs,r1,.inl ⟨ob,aA⟩,ra.data.keep kp2⟩
def gx(td te:TD)(τ:DS)(M:MH)(Q:QD):Prop:=td τ M λ w M1=>∃ a ws,w=.m a/\M1 a=some (.lst ws)/\te τ M1 λ y M2=>∃ ws',M2 a=some (.lst ws')/\ws'.length<sizeLine/\Q (.d .none) (bC M2 a (.lst (ws'++[y])))
theorem abe(ho:PD X o td)(he:PD X e te)
  (hbase:attributeBase o "append" X.env (eval o X.env)=eval o X.env:=by rfl)
  (hfew:((backTo cpos (starEach [e] X.env)).all (λ x=>!x.1)&&(backToKw cpos (keywordEach [] X.env)).all (λ x=>x.1.isSome)
   && decide (([e]:List Expr).length+([]:List Keyword).length+(if ([]:List Keyword).isEmpty then 0 else 1)<30))=true:=by rfl)
  (hline:(apos.endLine==cpos.line)=true:=by rfl)(hs:eF e=false:=by rfl):PD X (.Call (.Attribute o "append" apos) [e] [] cpos) (gx td te):=
 ie (ac9 PySem.F.plainAttrs_list PySem.F.slot_list_append PySem.F.type_list_append aay ho (pac he mN hs) hbase hfew hline (bV e [] X.env hs) rfl) λ σ H Q h=>by obtain⟨τ,M,Qd,A,h,k⟩:=h;refine⟨τ,M,_,A,h,λ x H1 w M1 kp1 r1 m1 hq69=>?_⟩;obtain⟨a,ws,ew,hm,q1⟩:=hq69;subst ew;obtain⟨vs,ea,ra⟩:=m1 _ _ hm;have r1':x=.ref a:=r1;subst r1';refine⟨.inl ⟨rfl,vs,.inl (.inl ea)⟩,τ,M1,aiE (λ y M2=>∃ ws',M2 a=some (.lst ws')/\ws'.length<sizeLine/\Qd (.d .none) (bC M2 a (.lst (ws'++[y])))),A.go kp1 m1,q1,λ ys H2 wys M2 kp2 r2 m2 q2=>?_⟩;obtain⟨y,ey,ws',hm2,hl,q4⟩:=rP q2;subst ey;obtain⟨v,ev,rv⟩:=gb r2;subst ev;obtain⟨vs2,ea2,ra2⟩:=m2 _ _ hm2;have kp4:Kp H2 (upd H2 a (.lst (vs2++[v]))):=Kp.set ea2 (λ _ z=>nomatch z) (λ _ _ z=>nomatch z);refine⟨a,vs2,v,rfl,rfl,ea2,by rw[<- ra2.length];exact hl,?_⟩;exact k _ _ (.d .none) _ ((kp1.trans kp2).trans kp4) (by simp[aQ,aN]) (m2.put (mo:=.lst (ws'++[y])) kp4 ⟨_,aA,(bu.append ra2 (.cons rv .nil)).keep kp4⟩) q4
def md(K:FG)(H:Hp)(d:PyData)(x:V):Prop:=aN K H d x\/∃ a vs ds,d=.list ds/\x=.ref a/\H a=some (.lst vs)/\bJ K H ds vs
inductive zM(M:MH):W->PyData->Prop
 | d {x:PyData}:zM M (.d x) x
 | l {a:Addr} {ds:List PyData} (h:M a=some (.lst (ds.map W.d))):zM M (.m a) (.list ds)
theorem zM.sound{K:FG}{H:Hp}{M:MH}{w:W}{d:PyData}{x:V}(g:zM M w d)(r:aQ K H w x)(m:cX K H M):md K H d x:=by
 cases g with
 | d=>exact .inl r
 | l h =>
  obtain⟨vs,e,ra⟩:=m _ _ h;exact .inr ⟨_,vs,_,rfl,r,e,ra.data⟩
theorem alL(I:Inv X pins σ H s)(h:md X.K H d x):∃ H',Inv X pins σ H' s/\aN X.K H' d x:=by
 rcases h with h | ⟨a,vs,ds,rfl,rfl,e,ra⟩
 ·exact⟨H,I,h⟩
 ·obtain⟨o,I2⟩:=I.freeze e trivial;have kp:Kp H (upd H a (.frz o (.lst vs))):=Kp.set e (λ _ z=>nomatch z) (λ _ _ z=>nomatch z);refine⟨_,I2,?_⟩;simp only[aN];exact⟨a,vs,rfl,.inl ⟨o,aA⟩,ra.keep kp⟩
theorem eB(I:Inv X pins σ H s)(d:PyData)(h:md X.K H d x)(r:RelV x u)(hd:d.hasDict=false):∃ as,Reads s.heap u d as:=by obtain⟨H',I',h'⟩:=alL I h;exact eP I' d h' r hd
theorem wW(I:Inv X pins σ H s)(h:md X.K H d x)(r:RelV x u)(ok:eI d=true):∃ as,Reads s.heap u d as/\(d.hasDict=true->sysModules ∉ as):=by obtain⟨H',I',h'⟩:=alL I h;exact qf I' h' r ok
theorem y6(hr:d4 k X.A):fZ X (.builtin "repr") (λ xs H Q=>∃ x d,xs=[x]/\md X.K H d x/\eI d=true/\Q (.str d.shown) H):=by
 intro pins s σ H xs us Q I r h;obtain⟨x,d,rfl,rd,ok,q⟩:=h;obtain⟨u,rfl,rx⟩:=vals1 r;obtain⟨as,rr,hsm⟩:=wW I rd rx ok;have ok':=ok;simp only[eI,ae00,decide_eq_true_eq] at ok';obtain⟨⟨⟨hs,hz⟩,hd⟩,_⟩:=ok';have hu:=hr.units;cases rr with
 | none=>exact PySem.P.repr_of_none ⟨.str _,H,I.tok _,⟨_,rfl⟩,by simpa [PyData.shown] using q⟩
 | bool b=>exact PySem.P.repr_of_bool ⟨.str _,H,I.tok _,⟨_,rfl⟩,by simpa [PyData.shown] using q⟩
 | int i t =>
  refine PySem.P.repr_of_int (by simpa [PyData.showable] using hs) ⟨.str _,H,I.tok _,⟨_,rfl⟩,?_⟩;rw[PyData.shown] at q;exact q
 | str i t =>
  refine PySem.P.repr_of_str ⟨.str _,H,I.tok _,⟨_,rfl⟩,?_⟩ (by simpa [PyData.shown] using hz);rw[PyData.shown] at q;exact q
 | list e1 e2 e3 e4=>exact repr_of_reads' (.list e1 e2 e3 e4) hs hsm hr.gd (by omega) (λ _ _ z=>z) (λ h' u tk hk=>⟨.str _,H,I.kept hk,⟨_,rfl⟩,q⟩) hz
 | tuple e1 e2 e3 e4=>exact repr_of_reads' (.tuple e1 e2 e3 e4) hs hsm hr.gd (by omega) (λ _ _ z=>z) (λ h' u tk hk=>⟨.str _,H,I.kept hk,⟨_,rfl⟩,q⟩) hz
 | dict e1 e2 e3 e4 e5=>exact repr_of_reads' (.dict e1 e2 e3 e4 e5) hs hsm hr.gd (by omega) (λ _ _ z=>z) (λ h' u tk hk=>⟨.str _,H,I.kept hk,⟨_,rfl⟩,q⟩) hz
theorem bG(hr:d4 k X.A):OpR X (compareOp .Eq) (λ x y H Q=>∃ d d',md X.K H d x/\md X.K H d' y/\iy d d'=true/\Q (.bl (PyData.eqv d d')) H):=by
 intro pins s σ H x y v u Q I rx ry h;obtain⟨d,d',h1,h2,o,q⟩:=h;rcases gS o with ⟨a,b,e1,e2⟩ | ⟨o1,o2⟩
 ·subst e1;subst e2;rcases h1 with h1 | ⟨_,_,_,z,_⟩
  ·rcases h2 with h2 | ⟨_,_,_,z,_⟩
   ·exact aeR hr pins s σ H x y v u Q I rx ry ⟨_,_,h1,h2,o,q⟩
   ·cases z
  ·cases z
 simp only[wc,ae00,Bool.not_eq_true'] at o1 o2;obtain⟨as,r1⟩:=eB I d h1 rx o1.2;obtain⟨bs,r2⟩:=eB I d' h2 ry o2.2;exact eq_dataH r1 r2 o1.1 o2.1 hr.units ⟨.bl _,H,I,rfl,q⟩
theorem iI(hr:d4 k X.A):OpR X (compareOp .NotEq) (λ x y H Q=>∃ d d',md X.K H d x/\md X.K H d' y/\iy d d'=true/\Q (.bl (!PyData.eqv d d')) H):=by
 intro pins s σ H x y v u Q I rx ry h;obtain⟨d,d',h1,h2,o,q⟩:=h;rcases gS o with ⟨a,b,e1,e2⟩ | ⟨o1,o2⟩
 ·subst e1;subst e2;rcases h1 with h1 | ⟨_,_,_,z,_⟩
  ·rcases h2 with h2 | ⟨_,_,_,z,_⟩
   ·exact aiy hr pins s σ H x y v u Q I rx ry ⟨_,_,h1,h2,o,q⟩
   ·cases z
  ·cases z
 simp only[wc,ae00,Bool.not_eq_true'] at o1 o2;obtain⟨as,r1⟩:=eB I d h1 rx o1.2;obtain⟨bs,r2⟩:=eB I d' h2 ry o2.2;exact ne_dataH r1 r2 o1.1 o2.1 hr.units ⟨.bl _,H,I,rfl,q⟩
section
variable {X:Cx}{K:FG}
def bU(w w':W)(M:MH)(Q:QD):Prop:=∃ d d',zM M w d/\zM M w' d'/\iy d d'=true/\Q (.d (.bool (PyData.eqv d d'))) M
def jA(w w':W)(M:MH)(Q:QD):Prop:=∃ d d',zM M w d/\zM M w' d'/\iy d d'=true/\Q (.d (.bool (!PyData.eqv d d'))) M
theorem aX:OpD K (λ x y H Q=>∃ d d',md K H d x/\md K H d' y/\iy d d'=true/\Q (.bl (PyData.eqv d d')) H) bU:=by intro x y H w w' M Qd Q r1 r2 m ⟨d,d',g1,g2,o1,q⟩ k;exact⟨d,d',g1.sound r1 m,g2.sound r2 m,o1,k _ H (.d (.bool _)) M (Kp.refl H) (by simp[aQ,aN]) m q⟩
theorem fT:OpD K (λ x y H Q=>∃ d d',md K H d x/\md K H d' y/\iy d d'=true/\Q (.bl (!PyData.eqv d d')) H) jA:=by intro x y H w w' M Qd Q r1 r2 m ⟨d,d',g1,g2,o1,q⟩ k;exact⟨d,d',g1.sound r1 m,g2.sound r2 m,o1,k _ H (.d (.bool _)) M (Kp.refl H) (by simp[aQ,aN]) m q⟩
def ach(ws:List W)(M:MH)(Q:QD):Prop:=∃ w d,ws=[w]/\zM M w d/\eI d=true/\Q (.d (.str d.shown)) M
theorem ad8:iz K (λ xs H Q=>∃ x d,xs=[x]/\md K H d x/\eI d=true/\Q (.str d.shown) H) ach:=by intro vs H ws M Qd Q r m ⟨w,d,e,g,ok,q⟩ k;subst e;obtain⟨v,e1,r1⟩:=gb r;exact⟨v,d,e1,g.sound r1 m,ok,k _ H (.d (.str _)) M (Kp.refl H) (by simp[aQ,aN]) m q⟩
inductive acw(M:MH):W->List W->Prop
 | l {ds:List PyData}:acw M (.d (.list ds)) (ds.map W.d)
 | t {ds:List PyData}:acw M (.d (.tuple ds)) (ds.map W.d)
 | m {a:Addr} {ws:List W} (h:M a=some (.lst ws)):acw M (.m a) ws
theorem acw.sound(g:acw M w ws)(r:aQ K H w x)(m:cX K H M):∃ p ys,x=.ref p/\(SqL K H p ys\/SqT K H p ys)/\bu K H ws ys:=by
 cases g with
 | l =>
  simp only[aQ,aN] at r;obtain⟨a,vs,e,hs,ra⟩:=r;exact⟨a,vs,e,.inl hs.sq,ra.ws⟩
 | t =>
  simp only[aQ,aN] at r;obtain⟨a,vs,e,hs,ra⟩:=r;exact⟨a,vs,e,.inr hs,ra.ws⟩
 | m h =>
  obtain⟨vs,e,ra⟩:=m _ _ h;exact⟨_,vs,r,.inl (.inl (.inl e)),ra⟩
def dA(ws:List W)(M:MH)(Q:QD):Prop:=∃ w xs,ws=[w]/\acw M w xs/\∀ p,M p=none->Q (.m p) (bC M p (.lst xs))
theorem df:iz K (λ xs H Q=>∃ p ys,xs=[.ref p]/\(SqL K H p ys\/SqT K H p ys)/\∀ l,H l=none->Q (.ref l) (upd H l (.lst ys))) dA:=by intro vs H ws M Qd Q r m ⟨w,xs,e,g,q⟩ k;subst e;obtain⟨v,e1,r1⟩:=gb r;obtain⟨p,ys,ev,hs,rs⟩:=g.sound r1 m;subst ev;refine⟨p,ys,e1,hs,λ l hl=>?_⟩;have kp:Kp H (upd H l (.lst ys)):=Kp.new hl;exact k _ _ (.m l) _ kp rfl (m.put (mo:=.lst xs) kp ⟨ys,aA,rs.keep kp⟩) (q l (m.free hl))
def tQ(ws:List W)(M:MH)(Q:QD):Prop:=∃ w ds,ws=[w]/\acw M w (ds.map W.d)/\Q (.d (.tuple ds)) M
theorem y7:iz K (λ xs H Q=>∃ p ys,xs=[.ref p]/\((SqL K H p ys/\∀ l,H l=none->Q (.ref l) (upd H l (.tup ys)))\/(SqT K H p ys/\Q (.ref p) H))) tQ:=by
 intro vs H ws M Qd Q r m ⟨w,ds,e,g,q⟩ k;subst e;obtain⟨v,e1,r1⟩:=gb r;obtain⟨p,ys,ev,hs,rs⟩:=g.sound r1 m;subst ev;rcases hs with hs | hs
 ·refine⟨p,ys,e1,.inl ⟨hs,λ l hl=>?_⟩⟩;have kp:Kp H (upd H l (.tup ys)):=Kp.new hl;refine k _ _ (.d (.tuple ds)) M kp ?_ (m.new hl) q;simp only[aQ,aN];exact⟨l,ys,rfl,.inl (.inl aA),rs.data.keep kp⟩
 ·refine⟨p,ys,e1,.inr ⟨hs,?_⟩⟩;refine k _ _ (.d (.tuple ds)) M (Kp.refl H) ?_ m q;simp only[aQ,aN];exact⟨p,ys,rfl,hs,rs.data⟩
def cV(zs:List Str):List W:=zs.map λ z=>.d (.str z)
theorem yj:∀ {zs:List Str} {vs:List V},bu K H (cV zs) vs->vs=zs.map V.str
 | [],_,h=>by cases h;rfl
 | z::zs,_,h=>by
  cases h with
  | cons r t =>
   simp only[aQ,aN] at r;rw[r,yj t];rfl
theorem ab9(z:Str):∀ zs:List Str,inV (.str z) (zs.map V.str)=decide (z∈zs)
 | []=>rfl
 | y::zs=>by
  have h:inV (.str z) ((y::zs).map V.str)=((y==z) || inV (.str z) (zs.map V.str)):=rfl;rw[h,ab9 z zs]
  by_cases e:z=y
  ·subst e;simp
  ·have e':(y==z)=false:=by
    cases q:(y==z) with
    | false=>rfl
    | true=>exact absurd (eq_of_beq q).symm e
   rw[e'];simp[e]
theorem aaW:∀ zs:List Str,(zs.map V.str).all pN=true
 | []=>rfl
 | _::zs=>by simp[pN]
def mj(neg:Bool)(w w':W)(M:MH)(Q:QD):Prop:=∃ z zs,w=.d (.str z)/\acw M w' (cV zs)/\Q (.d (.bool (if neg then !decide (z∈zs) else decide (z∈zs)))) M
theorem gu(neg:Bool):OpD K (rIn K neg) (mj neg):=by intro x y H w w' M Qd Q r1 r2 m ⟨z,zs,ew,g,q⟩ k;subst ew;simp only[aQ,aN] at r1;subst r1;obtain⟨p,ys,ey,hs,rs⟩:=g.sound r2 m;have e:=yj rs;subst e;refine⟨p,_,ey,hs,rfl,aaW zs,?_⟩;rw[ab9];exact k _ H (.d (.bool _)) M (Kp.refl H) (by simp[aQ,aN]) m q
inductive zV(M:MH):W->Bool->Prop
 | n:zV M (.d .none) false
 | b {k:Bool}:zV M (.d (.bool k)) k
 | i {k:Int}:zV M (.d (.int k)) (k != 0)
 | s {z:Str} (h:z.length<=sizeLine):zV M (.d (.str z)) ((z.length:Int) != 0)
 | l {ds:List PyData}:zV M (.d (.list ds)) (!ds.isEmpty)
 | t {ds:List PyData}:zV M (.d (.tuple ds)) (!ds.isEmpty)
 | m {a:Addr} {ws:List W} (h:M a=some (.lst ws)):zV M (.m a) (!ws.isEmpty)
 | dk {a:Addr} {kvs:List (Key×W)} (h:M a=some (.dic kvs)):zV M (.m a) (!kvs.isEmpty)
theorem jU{α β:Type}{xs:List α}{ys:List β}(h:xs.length=ys.length):xs.isEmpty=ys.isEmpty:=by
 cases xs<;>cases ys<;>simp at h ⊢
theorem zV.sound{b:Bool}(g:zV M w b)(r:aQ K H w x)(m:cX K H M):alb K x H b:=by
 cases g with
 | n=>simp only[aQ,aN] at r;subst r;rfl
 | b=>simp only[aQ,aN] at r;subst r;rfl
 | i=>simp only[aQ,aN] at r;subst r;rfl
 | s h=>simp only[aQ,aN] at r;subst r;exact⟨h,rfl⟩
 | l =>
  simp only[aQ,aN] at r;obtain⟨a,vs,e,hs,ra⟩:=r;subst e;exact .inl ⟨vs,hs.sq,by rw[jU ra.length]⟩
 | t =>
  simp only[aQ,aN] at r;obtain⟨a,vs,e,hs,ra⟩:=r;subst e;exact .inr (.inl ⟨vs,hs,by rw[jU ra.length]⟩)
 | m h =>
  obtain⟨vs,e,ra⟩:=m _ _ h;have r':x=.ref _:=r;subst r';exact .inl ⟨vs,.inl (.inl e),by rw[jU ra.length]⟩
 | dk h =>
  obtain⟨l,e,pr⟩:=m _ _ h;have r':x=.ref _:=r;subst r';exact .inr (.inr ⟨l,e,by rw[jU (zU pr)]⟩)
def aj3(ta:TD)(τ:DS)(M:MH)(Q:Bool->MH->Prop):Prop:=ta τ M λ w M1=>∃ b,zV M1 w b/\Q b M1
theorem aaz(ha:PD X a ta)(he:∀ whole:Sem Value,PySem.isTrue a X.env whole=(do let v <- whole;standAt a.pos;holding [v] (truthy v)):=by intro _;rfl):PTd X a (aj3 ta):=
 aey (adK ha he) λ σ H Q h=>by obtain⟨τ,M,Qd,A,h,k⟩:=h;exact⟨τ,M,_,A,h,λ v H' w M' kp r m ⟨b,g,q⟩=>⟨b,g.sound r m,k b H' M' kp m q⟩⟩
def aeH(ws:List W)(M:MH)(Q:QD):Prop:=∃ i j,ws=[.d (.int i),.d (.int j)]/\Q (.d (.int (if j > i then j else i))) M
theorem afD:iz K (λ xs H Q=>∃ i j,xs=[V.int i,V.int j]/\Q (V.int (if j > i then j else i)) H) aeH:=by intro vs H ws M Qd Q r m ⟨i,j,e,q⟩ k;subst e;obtain⟨v,v',e1,r1,r2⟩:=xS r;simp only[aQ,aN] at r1 r2;subst r1 r2;exact⟨i,j,e1,k _ H (.d (.int _)) M (Kp.refl H) (by simp[aQ,aN]) m q⟩
end
section
variable {X:Cx}{K:FG}
def ajj(K:FG):R2:=λ x y H Q=>∃ l b xs zs,x=.ref l/\y=.ref b/\SqL K H l xs/\SqL K H b zs/\xs.length+zs.length<=sizeLine/\∀ p,H p=none->Q (.ref p) (upd H p (.lst (xs++zs)))
theorem abq:OpR X (binaryOp .Add) (ajj X.K):=by
 intro pins s σ H x y v u Q I rx ry h;obtain⟨l,b,xs,zs,rfl,rfl,h1,h2,hz,q⟩:=h;cases rx;cases ry;obtain⟨its,r1,p1,_⟩:=I.list h1;obtain⟨its2,r2,p2,_⟩:=I.list h2;have t1:=p1.isList.typeIs (s:=s);have t2:=p2.isList.typeIs (s:=s);obtain⟨⟨oc,od,odt,osl⟩,n,e1,c1,d1,g1⟩:=p1;obtain⟨⟨oc2,od2,odt2,osl2⟩,n2,e2,c2,d2,g2⟩:=p2;dsimp only at c1 d1 g1 c2 d2 g2;subst c1 d1 g1 c2 d2 g2;have hl1:=r1.length;have hl2:=r2.length;refine wpAny_binaryOp_concat (T:= "list") t1 t2 noFill_list_add seq_list_add ?_;refine call_meets PySem.F.slot_list_add t1 PySem.F.entry_list_add (PySem.F.args_list_add_2 _ _) (list_addW l b its.toArray its2.toArray n n2 none none osl osl2 (by simp only[List.size_toArray];omega)) ⟨e1,e2,?_⟩;have ea:its.toArray++its2.toArray=(its++its2).toArray:=by simp
 rw[ea];exact⟨.ref _,_,I.al8 (t':=s.toks) (r1.append r2) (by rw[List.length_append];omega),rfl,q _ I.fresh⟩
inductive afP(M:MH):W->List PyData->Prop
 | d {ds:List PyData}:afP M (.d (.list ds)) ds
 | m {a:Addr} {ds:List PyData} (h:M a=some (.lst (ds.map W.d))):afP M (.m a) ds
theorem afP.sound(g:afP M w ds)(r:aQ K H w x)(m:cX K H M):∃ p ys,x=.ref p/\SqL K H p ys/\bJ K H ds ys:=by
 cases g with
 | d =>
  simp only[aQ,aN] at r;obtain⟨a,vs,e,hs,ra⟩:=r;exact⟨a,vs,e,hs.sq,ra⟩
 | m h =>
  obtain⟨vs,e,ra⟩:=m _ _ h;exact⟨_,vs,r,.inl (.inl e),ra.data⟩
def yJ(ta tb:TD)(τ:DS)(M:MH)(Q:QD):Prop:=ta τ M λ w M1=>tb τ M1 λ w' M2=>∃ xs ys,afP M2 w xs/\afP M2 w' ys/\xs.length+ys.length<=sizeLine/\Q (.d (.list (xs++ys))) M2
theorem ahP(ha:PD X a ta)(hb:PD X b tb):PD X (.BinOp a .Add b pos) (yJ ta tb):=ie (ub (ai0 abq ha hb)) λ σ H Q h=>by obtain⟨τ,M,Qd,A,h,k⟩:=h;refine⟨τ,M,_,A,h,λ x H1 w M1 kp1 r1 m1 q1=>⟨τ,M1,_,A.go kp1 m1,q1,λ y H2 w' M2 kp2 r2 m2 hq70=>?_⟩⟩;obtain⟨xs,ys,g1,g2,hz,q⟩:=hq70;obtain⟨p,vs,e1,s1,ra1⟩:=g1.sound (r1.keep kp2) m2;obtain⟨p',vs',e2,s2,ra2⟩:=g2.sound r2 m2;refine⟨p,p',vs,vs',e1,e2,s1,s2,by rw[ra1.length,ra2.length];exact hz,λ c hc=>?_⟩;exact rK hc (ra1.append ra2) m2 q (kgo (kgo k kp1) kp2)
end
abbrev aib:=List W->DS->MH->(DS->MH->Prop)->Prop
def amv(K:FG)(g:aib):TGs:=λ vs σ H Q=>∃ ws τ M Qd,bu K H ws vs/\Abs K H σ τ M/\g ws τ M Qd/\∀ σ' H' τ' M',Kp H H'->Abs K H' σ' τ' M'->Qd τ' M'->Q σ' H'
abbrev aeZ(X:Cx)(es:List Expr)(g:aib):Prop:=PGs X es (amv X.K g)
theorem ajc(h:PGs X es g)(k:∀ v σ H Q,g' v σ H Q->g v σ H Q):PGs X es g':=λ pins s σ H v u Q I r q=>h pins s σ H v u Q I r (k v σ H Q q)
def pR(ws:List W)(τ:DS)(M:MH)(Q:DS->MH->Prop):Prop:=ws=[]/\Q τ M
def de(g:TGd)(gs:aib)(ws:List W)(τ:DS)(M:MH)(Q:DS->MH->Prop):Prop:=∃ w r,ws=w::r/\g w τ M λ τ' M'=>gs r τ' M' Q
theorem zQ(h1:PGd X e g)(h2:aeZ X es gs)(hs:(assignEach (e::es) X.env).map (·.2)=assign e X.env::(assignEach es X.env).map (·.2):=by rfl):aeZ X (e::es) (de g gs):=
 ajc (ad2 h1 h2 hs) λ vs σ H Q hq72=>by
  obtain⟨ws,τ,M,Qd,r,A,⟨w,wr,ew,q⟩,k⟩:=hq72;subst ew;cases r with
  | cons r1 r2 =>
   refine⟨_,_,rfl,w,τ,M,_,r1,A,q,λ σ1 H1 τ1 M1 kp1 A1 q1=>?_⟩;exact⟨wr,τ1,M1,Qd,bu.keep kp1 r2,A1,q1,λ σ2 H2 τ2 M2 kp2 A2 q2=>k σ2 H2 τ2 M2 (kp1.trans kp2) A2 q2⟩
def gT(n:Nat)(gs:aib)(w:W)(τ:DS)(M:MH)(Q:DS->MH->Prop):Prop:=∃ ds,w=.d (.tuple ds)/\ds.length=n/\gs (ds.map W.d) τ M Q
theorem afo(hc:X.calm=true)(h:aeZ X es gs)(hn:(assignEach es X.env).length=n:=by rfl)(hst:(assignEach es X.env).findIdx? (·.1)=none:=by rfl):PGd X (.Tuple es k pos) (gT n gs):=
 akk (aeI hc h hn hst) λ v σ H Q hq73=>by obtain⟨w,τ,M,Qd,r,A,⟨ds,ew,hl,q⟩,kk⟩:=hq73;subst ew;simp only[aQ,aN] at r;obtain⟨a,vs,ev,hs,ra⟩:=r;exact⟨a,vs,ev,hs,by rw[ra.length];exact hl,ds.map W.d,τ,M,Qd,ra.ws,A,q,kk⟩
def aka(i j:Nat)(t:TAd)(D:Ed)(τ:DS)(M:MH):Prop:=t τ M λ ws M1=>∃ v w,ws=[v,w]/\D.nx ((τ.set i (some v)).set j (some w)) M1
theorem af4{kt k2 pt2}(hc:X.calm=true)(hN:X.N.Nodup)(hi:X.N[i]? =some x)(hj:X.N[j]? =some y)(hij:i≠j)
  (hx:X.env.scope.names.lookup x=some .local)(hy:X.env.scope.names.lookup y=some .local)(ha:PAd X [a,b] t)
  (hw:swappedStores [.Tuple [.Name x px,.Name y py] kt pt] (.Tuple [a,b] k2 pt2) X.env=pure (some [x,y]):=by rfl)
  (hs:swapsWithSole [.Tuple [.Name x px,.Name y py] kt pt] (.Tuple [a,b] k2 pt2) pos.line X.env=pure false:=by rfl) :
  PSd X (.Assign [.Tuple [.Name x px,.Name y py] kt pt] (.Tuple [a,b] k2 pt2) pos) (aka i j t):=wB (ajG hc hN hi hj hij hx hy ha hw hs) λ D σ H h=>by
 obtain⟨τ,M,Dd,A,h,k1,_⟩:=h;refine⟨τ,M,_,A,h,λ vs H1 ws M1 kp1 r1 m1 hq74=>?_⟩;obtain⟨v,w,ew,q⟩:=hq74;subst ew;obtain⟨u1,u2,e1,r2,r3⟩:=xS r1;exact⟨u1,u2,e1,k1 _ H1 _ M1 kp1 (((A.go kp1 m1).set i r2).set j r3) q⟩
def lC(trs:List (TD×TD))(τ:DS)(M:MH)(Q:QD):Prop:=∀ p,M p=none->xI trs τ (bC M p (.dic [])) λ ps M2=>M2 p=some (.dic [])/\∃ kvs:List (Key×W),ps=kvs.map (λ q=>(kW q.1,q.2))/\kvs.length<=15/\(kvs.map (·.1)).Nodup /\
 Q (.m p) (bC M2 p (.dic kvs))
theorem qe{K:FG}{H:Hp}:∀ {kvs:List (Key×W)} {ps:List (V×V)},Paired (λ(p:W×W) (q:V×V)=>aQ K H p.1 q.1/\aQ K H p.2 q.2) (kvs.map λ q=>(kW q.1,q.2)) ps ->
  ∃ l:List (Key×V),ps=l.map (λ kv=>(kV kv.1,kv.2))/\l.map (·.1)=kvs.map (·.1)/\Paired (λ(p:Key×W) (q:Key×V)=>p.1=q.1/\aQ K H p.2 q.2) kvs l
 | [],ps,h=>by cases h;exact⟨[],rfl,rfl,.nil⟩
 | (k,d)::kvs,ps,h=>by
  cases h with
  | cons r t =>
   rename_i q qs
   obtain⟨x,y⟩:=q;obtain⟨l,e1,e2,e3⟩:=qe t;refine⟨(k,y)::l,?_,by simp[e2],.cons ⟨rfl,r.2⟩ e3⟩;rw[List.map_cons,<- e1,<- om r.1]
theorem adk(h:PPs X pos keys values (trs.map λ p=>(up X.K p.1,up X.K p.2)))(hall:keys.all (·.isSome)=true:=by rfl)(hl:keys.length=values.length:=by rfl)(h0:keys≠[]:=by simp)
  (h15:keys.length<=15:=by decide):PD X (.Dict keys values pos) (lC trs):=ie (abu h hall hl h0 h15) λ σ H Q ⟨τ,M,Qd,A,q,k⟩=>λ p hp=>by
 have kp0:Kp H (upd H p (.dK [])):=Kp.new hp;have m0:cX X.K (upd H p (.dK [])) (bC M p (.dic [])):=A.mem.put (mo:=.dic []) kp0 ⟨[],aA,.nil⟩;have hM:=A.mem.free hp;refine nh (A.go kp0 m0) (q p hM) λ ps H2 ws M2 kp2 r2 m2 hq75=>?_;obtain⟨eM,kvs,ews,hlen,hnd,qq⟩:=hq75;subst ews;obtain⟨l0,e0,pr0⟩:=m2 p _ eM;have el0:l0=[]:=by cases pr0;rfl
 subst el0;obtain⟨l,e1,e2,e3⟩:=qe r2;have elen:l.length=kvs.length:=by
  have:=congrArg List.length e2
  simpa using this
 refine⟨e0,l,e1,by omega,?_⟩;have em:ig [] l=l:=by rw[iZ (by simpa [e2] using hnd)];rfl
 rw[em];have kp3:Kp H2 (upd H2 p (.dK l)):=Kp.set e0 (λ xs z=>nomatch z) λ _ _ z=>nomatch z;exact k _ _ (.m p) _ ((kp0.trans kp2).trans kp3) rfl (m2.put (mo:=.dic kvs) kp3 ⟨l,aA,Paired.lV e3 λ p q z=>⟨z.1,z.2.keep kp3⟩⟩) qq
structure Mf(K:FG)(C:Addr)(x qual:Str)(st:Stmt)(ps:List Str)(f:Addr)(fd:FuncData):Prop where
 fn:Fun K x qual st f fd
 me:Meth K C x f
 bd:Binds K fd ps []
structure Mi(K:FG)(C:Addr)(qual:Str)(st:Stmt)(ps:List Str)(f:Addr)(fd:FuncData):Prop where
 fn:Fun K "__init__" qual st f fd
 mi:Mk K C f
 bd:Binds K fd ps []
section
variable {K:FG}{C:Addr}
theorem alD{x qual:Str}{st:Stmt}{ps:List Str}{oc:Value}{od an:Option Addr}{osl:Array (Option Value)}{kV doc pm cdv ct:Value}(a:W.findIn K (.ref C) x=some (some (.ref f)))(i:W.isFn K (.ref f)=true)
  (l:K.lookup f=some ⟨oc,od,.func (W.fnOf x qual (bh st) (aY st) (ak st) .none kV doc pm an cdv ct),osl⟩)(c:W.codeIn K cdv qual=true)(k:W.keepIn K (.ref f)=true)
  (b:∀ (kV doc pm:Value) (an:Option Addr) (cdv ct:Value) (us:List Value),us.length=ps.length->bindArgs (W.fnOf x qual (bh st) (aY st) (ak st) .none kV doc pm an cdv ct) ⟨us,[]⟩=pure (ps.zip us)) :
  Mf K C x qual st ps f (W.fnOf x qual (bh st) (aY st) (ak st) .none kV doc pm an cdv ct):=
 have F:=sR (st:=st) l c k
 ⟨F,⟨a,i,k⟩,F.binds b⟩
theorem ak4{qual:Str}{st:Stmt}{ps:List Str}{oc:Value}{od an:Option Addr}{osl:Array (Option Value)}{kV doc pm cdv ct:Value}(a:W.findIn K (.ref C) "__init__" = some (some (.ref f)))(i:W.isFn K (.ref f)=true)
  (l:K.lookup f=some ⟨oc,od,.func (W.fnOf "__init__" qual (bh st) (aY st) (ak st) .none kV doc pm an cdv ct),osl⟩)(c:W.codeIn K cdv qual=true)(k:W.keepIn K (.ref f)=true)
  (mk:W.makesIn K C=true)(kc:W.keepIn K (.ref C)=true)
  (b:∀ (kV doc pm:Value) (an:Option Addr) (cdv ct:Value) (us:List Value),us.length=ps.length->bindArgs (W.fnOf "__init__" qual (bh st) (aY st) (ak st) .none kV doc pm an cdv ct) ⟨us,[]⟩=pure (ps.zip us)) :
  Mi K C qual st ps f (W.fnOf "__init__" qual (bh st) (aY st) (ak st) .none kV doc pm an cdv ct):=
 have F:=sR (st:=st) l c k
 ⟨F,⟨mk,a,i,kc⟩,F.binds b⟩
end
theorem pcT(hc:fZ X (.type T) r)(hd:iz X.K r rd)(hg:Gl X x)(hm:X.mg x=none)(hv:bootBuiltins x=some (.type T))(ha:PAd X (e::es) t)(hn:x ≠ "__name__":= by decide)(hdb:ND x:=by decide)
  (h1:eF e=false:=by rfl)(h2:(es.all λ e=>!eF e)=true:=by rfl):PD X (.Call (.Name x p) (e::es) [] pos) (dCB rd t):=aae hc hd hg hm hv ha hn hdb (bV e es X.env h1) (cI pos X.env es h2)
theorem ai5:bootBuiltins "max" = some (.builtin "max"):=by decide +kernel
theorem qG  : Jd (PD X (.Dict [] [] pos) rh):=⟨ie adf λ σ H Q ⟨τ,M,Qd,A,h,k⟩ p hp =>
 k (.ref p) _ (.m p) (bC M p (.dic [])) (Kp.new hp) rfl (A.mem.put (mo:=.dic []) (Kp.new hp) ⟨[],aA,.nil⟩) (h p (A.mem.free hp))⟩
theorem xZ(hu:X.A.units+1<cLine)(hi:Jd (PD X i ti))(ho:Jd (PD X o td))(hm:behindInMarks .In o=false:=by rfl):Jd (PTd X (.Compare i [.In] [o] pos) (aJ (ajM ti td))):=⟨D.agZ (hu:=hu) (hi:=hi.h) (ho:=ho.h) (hm:=hm)⟩
theorem wM(hu:X.A.units+1<cLine)(hi:Jd (PD X i ti))(ho:Jd (PD X o td))(hm:behindInMarks .NotIn o=false:=by rfl):Jd (PTd X (.Compare i [.NotIn] [o] pos) (aJ (sj ti td))):=⟨D.zB (hu:=hu) (hi:=hi.h) (ho:=ho.h) (hm:=hm)⟩
theorem ay(hu:X.A.units+1<cLine)(ho:Jd (PD X o td))(hi:Jd (PD X i ti))(hs:ad4 i:=by exact λ _ _=>rfl):Jd (PD X (.Subscript o i pos) (bf td ti)):=⟨D.af6 (hu:=hu) (ho:=ho.h) (hi:=hi.h) (hs:=hs)⟩
theorem cL(hu:X.A.units+1<cLine)(ho:Jd (PD X o td))(hi:Jd (PD X i ti))(hv:Jd (PD X value tv))(hs:swapsWith value (some (.Subscript o i pos')) pos.line X.env=pure false:=by rfl):Jd (PSd X (.Assign [.Subscript o i pos'] value pos) (jr td ti tv)):=⟨D.acZ (hu:=hu) (ho:=ho.h) (hi:=hi.h) (hv:=hv.h) (hs:=hs)⟩
theorem bY(c:Cls X.K C)(n:cN X.K C fn)(he:Jd (PD X e td))(hb:attributeBase e fn X.env (eval e X.env)=eval e X.env:=by rfl):Jd (PD X (.Attribute e fn pos) (lp C td fn)):=⟨D.aiZ (c:=c) (n:=n) (he:=he.h) (hb:=hb)⟩
theorem hJ(c:Cls X.K C)(n:cN X.K C fn)(ha:Jd (PD X o td))(hv:Jd (PD X value tv))(hs:swapsWith value (some (.Attribute o fn pos')) pos.line X.env=pure false:=by rfl):Jd (PSd X (.Assign [.Attribute o fn pos'] value pos) (gy C td tv fn)):=⟨D.agk (c:=c) (n:=n) (ha:=ha.h) (hv:=hv.h) (hs:=hs)⟩
theorem qV(he:Jd (PD X o td))(c:Cls X.K C)(hm:Meth X.K C m f)(F:bK X.prog X.w X.K X.mg X.base CX0 k f fd ps (dH X.K sp))(hr:eO k X.A)(hb:Binds X.K fd ps [])(ha:Jd (PAd X (e::es) t))(ht:eval (.Call (.Attribute o m apos) (e::es) [] pos) X.env=(do
   let ov <- eval o X.env
   standAt apos.atName
   let (f,first) <- holding [ov] (getMethod ov m pl)
   callWith pos f first (backTo pos (starEach (e::es) X.env)) (backToKw pos (keywordEach [] X.env))):=by rfl)(h1:eF e=false:=by rfl)(h2:(es.all λ e=>!eF e)=true:=by rfl):Jd (PD X (.Call (.Attribute o m apos) (e::es) [] pos) (gG C m sp td t)):=⟨D.agX (he:=he.h) (c:=c) (hm:=hm) (F:=F) (hr:=hr) (hb:=hb) (ha:=ha.h) (ht:=ht) (h1:=h1) (h2:=h2)⟩
theorem dh(he:Jd (PD X o td))(c:Cls X.K C)(hm:Meth X.K C m f)(F:bK X.prog X.w X.K X.mg X.base CX0 k f fd ps (dH X.K sp))(hr:eO k X.A)(hb:Binds X.K fd ps [])(ht:eval (.Call (.Attribute o m apos) [] [] pos) X.env=(do
   let ov <- eval o X.env
   standAt apos.atName
   let (f,first) <- holding [ov] (getMethod ov m pl)
   callWith pos f first (backTo pos (starEach [] X.env)) (backToKw pos (keywordEach [] X.env))):=by rfl):Jd (PD X (.Call (.Attribute o m apos) [] [] pos) (gG C m sp td aI)):=⟨D.ada (he:=he.h) (c:=c) (hm:=hm) (F:=F) (hr:=hr) (hb:=hb) (ht:=ht)⟩
theorem cH(h:Jd (PD X e td)):Jd (PD X e (gX td)):=⟨D.afs (h:=h.h)⟩
theorem fD(ho:Jd (PD X o td))(he:Jd (PD X e te))(hbase:attributeBase o "append" X.env (eval o X.env)=eval o X.env:=by rfl)(hfew:((backTo cpos (starEach [e] X.env)).all (λ x=>!x.1)&&(backToKw cpos (keywordEach [] X.env)).all (λ x=>x.1.isSome)
   && decide (([e]:List Expr).length+([]:List Keyword).length+(if ([]:List Keyword).isEmpty then 0 else 1)<30))=true:=by rfl)(hline:(apos.endLine==cpos.line)=true:=by rfl)(hs:eF e=false:=by rfl):Jd (PD X (.Call (.Attribute o "append" apos) [e] [] cpos) (gx td te)):=⟨D.abe (ho:=ho.h) (he:=he.h) (hbase:=hbase) (hfew:=hfew) (hline:=hline) (hs:=hs)⟩
theorem pY(ha:Jd (PD X a ta))(he:∀ whole:Sem Value,PySem.isTrue a X.env whole=(do let v <- whole;standAt a.pos;holding [v] (truthy v)):=by intro _;rfl):Jd (PTd X a (aj3 ta)):=⟨D.aaz (ha:=ha.h) (he:=he)⟩
theorem fL(ha:Jd (PD X a ta))(hb:Jd (PD X b tb)):Jd (PD X (.BinOp a .Add b pos) (yJ ta tb)):=⟨D.ahP (ha:=ha.h) (hb:=hb.h)⟩
theorem eh  : Jd (aeZ X [] pR):=⟨ajc agL λ vs σ H Q hq71=>by obtain⟨ws,τ,M,Qd,r,A,⟨e,q⟩,k⟩:=hq71;subst e;cases r;exact⟨rfl,k σ H τ M (Kp.refl H) A q⟩⟩
theorem bb(h1:Jd (PGd X e g))(h2:Jd (aeZ X es gs))(hs:(assignEach (e::es) X.env).map (·.2)=assign e X.env::(assignEach es X.env).map (·.2):=by rfl):Jd (aeZ X (e::es) (de g gs)):=⟨D.zQ (h1:=h1.h) (h2:=h2.h) (hs:=hs)⟩
theorem gk(hc:X.calm=true)(h:Jd (aeZ X es gs))(hn:(assignEach es X.env).length=n:=by rfl)(hst:(assignEach es X.env).findIdx? (·.1)=none:=by rfl):Jd (PGd X (.Tuple es k pos) (gT n gs)):=⟨D.afo (hc:=hc) (h:=h.h) (hn:=hn) (hst:=hst)⟩
theorem yl{kt k2 pt2}(hc:X.calm=true)(hN:X.N.Nodup)(hi:X.N[i]? =some x)(hj:X.N[j]? =some y)(hij:i≠j)(hx:X.env.scope.names.lookup x=some .local)(hy:X.env.scope.names.lookup y=some .local)(ha:Jd (PAd X [a,b] t))(hw:swappedStores [.Tuple [.Name x px,.Name y py] kt pt] (.Tuple [a,b] k2 pt2) X.env=pure (some [x,y]):=by rfl)(hs:swapsWithSole [.Tuple [.Name x px,.Name y py] kt pt] (.Tuple [a,b] k2 pt2) pos.line X.env=pure false:=by rfl):Jd (PSd X (.Assign [.Tuple [.Name x px,.Name y py] kt pt] (.Tuple [a,b] k2 pt2) pos) (aka i j t)):=⟨D.af4 (hc:=hc) (hN:=hN) (hi:=hi) (hj:=hj) (hij:=hij) (hx:=hx) (hy:=hy) (ha:=ha.h) (hw:=hw) (hs:=hs)⟩
theorem gH(h:Jd (PPs X pos keys values (trs.map (pm X.K))))(hall:keys.all (·.isSome)=true:=by rfl)(hl:keys.length=values.length:=by rfl)(h0:keys≠[]:=by simp)(h15:keys.length<=15:=by decide):Jd (PD X (.Dict keys values pos) (lC trs)):=⟨D.adk (h:=h.h) (hall:=hall) (hl:=hl) (h0:=h0) (h15:=h15)⟩
theorem zy(hc:fZ X (.type T) r)(hd:iz X.K r rd)(hg:Gl X x)(hm:X.mg x=none)(hv:bootBuiltins x=some (.type T))(ha:Jd (PAd X (e::es) t))(hn:x ≠ "__name__":= by decide)(hdb:ND x:=by decide)(h1:eF e=false:=by rfl)(h2:(es.all λ e=>!eF e)=true:=by rfl):Jd (PD X (.Call (.Name x p) (e::es) [] pos) (dCB rd t)):=⟨D.pcT (hc:=hc) (hd:=hd) (hg:=hg) (hm:=hm) (hv:=hv) (ha:=ha.h) (hn:=hn) (hdb:=hdb) (h1:=h1) (h2:=h2)⟩
@[simp] theorem ai4 (i j:Int):iy (.int i) (.int j)=true:=rfl
@[simp] theorem ajH (x y:Str):iy (.str x) (.str y)=true:=rfl
@[simp] theorem ahC (x y:Bool):iy (.bool x) (.bool y)=true:=rfl
@[simp] theorem akr (i j:Int):PyData.eqv (.int i) (.int j)=(i==j):=by rw[PyData.eqv]
@[simp] theorem alw (i j:Str):PyData.eqv (.str i) (.str j)=(i==j):=by rw[PyData.eqv]
@[simp] theorem al3 (a:Addr):acH (.m a)=true:=rfl
@[simp] theorem ah8 (ds:List PyData):acH (.d (.list ds))=true:=rfl
@[simp] theorem ahn (ds:List PyData):acH (.d (.tuple ds))=true:=rfl
@[simp] theorem akc (n:Nat):ixN (n+1) 0=some 0:=by unfold ixN;simp
theorem aia{α:Type}{xs:List α}{i:Int}(h0:0<=i)(h1:i<xs.length):atI xs i=some (xs[i.toNat]'(by omega)):=by
 unfold atI ixN;rw[if_pos h0,if_pos h1];simp
inductive Bag(M:MH) (p:Addr):Prop
 | mk (a b c:Int) (ns:List Int) (e:M p=some (.lst [.d (.int a),.d (.int b),.d (.int c),.d (.list (ns.map PyData.int))])) (z:0<=a/\0<=b/\b<2147483647/\0<=c/\(∀ n∈ns,0<=n)):Bag M p
def gq:SpD:=λ ws M Q=>∃ ns:List Int,ws=[.d (.list (ns.map PyData.int))]/\ns.length<=1000/\∀ p M',M p=none->(∀ q,q≠p->M' q=M q)->Bag M' p->Q (.m p) M'
inductive tN(ws:List W) (M:MH) (Q:QD):Prop
 | mk (p:Addr) (n:Int) (z0:ws=[.m p,.d (.int n)]) (z1:Bag M p) (z2:0<n) (z3:n<1073741824) (z4:∀ (r:Int) M',0<=r->r<n->Bag M' p->(∀ q,q≠p->M' q=M q)->Q (.d (.int r)) M'):tN ws M Q
def aR:SpD:=tN
theorem acp:∀ ws M Q,gq ws M Q->ws.length=1:=by rintro ws M Q ⟨ns,rfl,_⟩;rfl
theorem yR:∀ ws M Q,aR ws M Q->ws.length=2:=by rintro ws M Q ⟨p,n,rfl,_⟩;rfl
theorem agu(hm:M p=some (.lst ws))(h:atI ws i=some x):ixW M (.m p) i=some x:=by simp only[ixW,hm];exact h
theorem lY{c:Bool}{A B:Prop}(h1:c=true->A)(h2:c=false->B):if c=true then A else B:=by
 cases c with
 | true=>rw[if_pos rfl];exact h1 rfl
 | false=>rw[if_neg ft0];exact h2 rfl
abbrev aa2:List Str:=["_law_script"]
def abD:TSd:=
  cF (fX (ah (dC (.d (.int 0))) (ah (dC (.d (.int 1234567891))) (ah (dC (.d (.int 0))) (ah (dLC (eG (dSl (aj 0) dJ (iO (dC (.d (.int 63)))))) (gN 0) adb (dCB aiS (ah (aj 0) aI)) 1 []) aI)))))
abbrev xM:List Str:=["_law_bag_here", "_law_many", "_law_cell", "_law_value", "_law_first", "_law_second"]
def yi:TSd:=
  bA (dIf (aJ (dOp al0 (dOp bL (aj 0) (dC (.d (.int 0)))) (dC (.d (.int 0)))))
   (bA (dU (dC (.d (.int 0))) (gN 2)) <|
   bA (dIf (aJ (dOp akX (dOp bL (aj 0) (dC (.d (.int 2)))) (dCB jC (ah (dOp bL (aj 0) (dC (.d (.int 3)))) aI))))
    (dU (dOp bL (dOp bL (aj 0) (dC (.d (.int 3)))) (dOp bL (aj 0) (dC (.d (.int 2))))) (gN 2))
    bx) <|
   bA (acO (aj 0) (dC (.d (.int 2))) (dC (.d (.int 1))) (λ i j=>i+j)) <|
   bA (dIf (aJ (dOp ahF (aj 2) (dC (.d (.int 1000000000000000000)))))
    (dU (aj 2) (ac1 (aj 0) (dC (.d (.int 0)))))
    bx) <|
   dU (dOp hU (dOp ip (dOp ip (dOp ju (dOp bL (aj 0) (dC (.d (.int 1)))) (dC (.d (.int 48271)))) (dOp hU (aj 2) (dC (.d (.int 2147483647))))) (dOp ju (dC (.d (.int 7919))) (dOp bL (aj 0) (dC (.d (.int 2)))))) (dC (.d (.int 2147483647)))) (ac1 (aj 0) (dC (.d (.int 1)))))
   bx) <|
  bA (dIf (aJ (dOp ahD (dOp bL (aj 0) (dC (.d (.int 0)))) (dC (.d (.int 0)))))
   (bA (dU (dOp hU (dOp bL (aj 0) (dC (.d (.int 0)))) (aj 1)) (gN 3)) <|
   bA (dU (dOp abA (dOp bL (aj 0) (dC (.d (.int 0)))) (aj 1)) (ac1 (aj 0) (dC (.d (.int 0))))) <|
   cF (aj 3))
   bx) <|
  bA (dU (dOp hU (dOp ju (dOp ip (dOp bL (aj 0) (dC (.d (.int 1)))) (dC (.d (.int 1)))) (dC (.d (.int 39373)))) (dC (.d (.int 1000000007)))) (gN 4)) <|
  bA (dU (dOp hU (dOp ju (dOp hU (dOp ju (aj 4) (aj 4)) (dC (.d (.int 998244353)))) (dC (.d (.int 30011)))) (dC (.d (.int 998244353)))) (gN 5)) <|
  bA (dIf (aJ (dOp ahD (aj 1) (dC (.d (.int 1000000)))))
   (cF (dOp hU (dOp ip (dOp ju (aj 5) (dC (.d (.int 1000000007)))) (aj 4)) (aj 1)))
   bx) <|
  cF (dOp hU (dOp abA (aj 5) (dC (.d (.int 7)))) (aj 1))
abbrev adz(a b c:Int)(ns:List Int):List W:=[.d (.int a),.d (.int b),.d (.int c),.d (.list (ns.map PyData.int))]
theorem k9(hm:M p=some (.lst (adz a b c ns)))(ha:0<=a)(hb:0<=b)(hb2:b<2147483647)(hc:0<=c)(hns:∀ n∈ns,0<=n)(hn:0<n)(hn2:n<1073741824)
  (k:∀ (r:Int) M',0<=r->r<n->Bag M' p->(∀ q,q≠p->M' q=M q)->Q (.d (.int r)) M')(hD:D.rt=Q) :
  (bA (dIf (aJ (dOp ahD (dOp bL (aj 0) (dC (.d (.int 0)))) (dC (.d (.int 0)))))
   (bA (dU (dOp hU (dOp bL (aj 0) (dC (.d (.int 0)))) (aj 1)) (gN 3)) <|
   bA (dU (dOp abA (dOp bL (aj 0) (dC (.d (.int 0)))) (aj 1)) (ac1 (aj 0) (dC (.d (.int 0))))) <|
   cF (aj 3))
   bx) <|
  bA (dU (dOp hU (dOp ju (dOp ip (dOp bL (aj 0) (dC (.d (.int 1)))) (dC (.d (.int 1)))) (dC (.d (.int 39373)))) (dC (.d (.int 1000000007)))) (gN 4)) <|
  bA (dU (dOp hU (dOp ju (dOp hU (dOp ju (aj 4) (aj 4)) (dC (.d (.int 998244353)))) (dC (.d (.int 30011)))) (dC (.d (.int 998244353)))) (gN 5)) <|
  bA (dIf (aJ (dOp ahD (aj 1) (dC (.d (.int 1000000)))))
   (cF (dOp hU (dOp ip (dOp ju (aj 5) (dC (.d (.int 1000000007)))) (aj 4)) (aj 1)))
   bx) <|
  cF (dOp hU (dOp abA (aj 5) (dC (.d (.int 7)))) (aj 1))) D [some (.m p),some (.d (.int n)),x,none,none,none] M:=by
 subst hD;have i0:ixW M (.m p) 0=some (.d (.int a)):=agu hm rfl;have i1:ixW M (.m p) 1=some (.d (.int b)):=agu hm rfl;have same:Bag M p:=⟨a,b,c,ns,hm,ha,hb,hb2,hc,hns⟩;refine⟨_,rfl,_,_,rfl,i0,rfl,_,_,rfl,rfl,_,rfl,?_⟩;refine lY (λ h=>?_) (λ h=>?_)
 ·have h0:0<a:=of_decide_eq_true h;refine⟨_,rfl,_,_,rfl,i0,rfl,_,rfl,_,_,rfl,rfl,hn,?_⟩;refine⟨_,rfl,_,_,rfl,i0,rfl,_,rfl,_,_,rfl,rfl,⟨hn,hn2⟩,?_⟩;refine⟨_,rfl,_,_,_,_,rfl,rfl,hm,rfl,?_⟩;refine⟨_,rfl,?_⟩;refine k _ _ (Int.emod_nonneg _ (by omega)) (Int.emod_lt_of_pos _ hn) ⟨a / n,b,c,ns,ao,Int.ediv_nonneg ha (by omega),hb,hb2,hc,hns⟩ λ q hq=>ar hq
 ·refine⟨_,rfl,_,_,rfl,i1,rfl,.inl ?_⟩;refine⟨_,_,rfl,rfl,_,_,rfl,rfl,.inl ⟨by omega,by omega⟩,_,_,rfl,rfl,(by decide:(0:Int)<1000000007),?_⟩;have f0:0<=(b+1) * 39373 % 1000000007:=Int.emod_nonneg _ (by decide);have f1:(b+1) * 39373 % 1000000007<1000000007:=Int.emod_lt_of_pos _ (by decide);refine⟨_,rfl,_,rfl,_,_,rfl,rfl,.inl ⟨by omega,by omega⟩,_,_,rfl,rfl,(by decide:(0:Int)<998244353),?_⟩;have g0:0<=(b+1) * 39373 % 1000000007 * ((b+1) * 39373 % 1000000007) % 998244353:=Int.emod_nonneg _ (by decide);have g1:(b+1) * 39373 % 1000000007 * ((b+1) * 39373 % 1000000007) % 998244353<998244353:=Int.emod_lt_of_pos _ (by decide);refine⟨_,_,rfl,rfl,.inl ⟨by omega,by omega⟩,_,_,rfl,rfl,(by decide:(0:Int)<998244353),?_⟩;have e0:0<=(b+1) * 39373 % 1000000007 * ((b+1) * 39373 % 1000000007) % 998244353 * 30011 % 998244353:=Int.emod_nonneg _ (by decide);have e1:(b+1) * 39373 % 1000000007 * ((b+1) * 39373 % 1000000007) % 998244353 * 30011 % 998244353<998244353:=Int.emod_lt_of_pos _ (by decide);refine⟨_,rfl,_,_,rfl,rfl,_,rfl,?_⟩;refine lY (λ h=>?_) (λ h=>?_)
  ·refine⟨_,rfl,_,_,rfl,rfl,.inl ⟨by omega,by omega⟩,_,rfl,.inl ⟨_,_,rfl,rfl,_,rfl,_,_,rfl,rfl,hn,?_⟩⟩;exact k _ _ (Int.emod_nonneg _ (by omega)) (Int.emod_lt_of_pos _ hn) same λ q _=>rfl
  ·refine⟨_,rfl,_,_,rfl,rfl,⟨by decide,by decide⟩,_,rfl,_,_,rfl,rfl,hn,?_⟩;exact k _ _ (Int.emod_nonneg _ (by omega)) (Int.emod_lt_of_pos _ hn) same λ q _=>rfl
theorem qK(hm:M p=some (.lst (adz a b c ns)))(ha:0<=a)(hb:0<=b)(hb2:b<2147483647)(hc:0<=c)(hcell:0<=cell)
  (k:∀ a' b' c' M',0<=a'->0<=b'->b'<2147483647->0<=c'->M' p=some (.lst (adz a' b' c' ns))->(∀ q,q≠p->M' q=M q)->D.nx [some (.m p),some (.d (.int n)),some (.d (.int cell)),none,none,none] M') :
  (bA (acO (aj 0) (dC (.d (.int 2))) (dC (.d (.int 1))) (λ i j=>i+j)) <|
   bA (dIf (aJ (dOp ahF (aj 2) (dC (.d (.int 1000000000000000000)))))
    (dU (aj 2) (ac1 (aj 0) (dC (.d (.int 0)))))
    bx) <|
   dU (dOp hU (dOp ip (dOp ip (dOp ju (dOp bL (aj 0) (dC (.d (.int 1)))) (dC (.d (.int 48271)))) (dOp hU (aj 2) (dC (.d (.int 2147483647))))) (dOp ju (dC (.d (.int 7919))) (dOp bL (aj 0) (dC (.d (.int 2)))))) (dC (.d (.int 2147483647)))) (ac1 (aj 0) (dC (.d (.int 1)))))
   D [some (.m p),some (.d (.int n)),some (.d (.int cell)),none,none,none] M:=by
 refine⟨_,rfl,_,_,_,_,_,rfl,rfl,hm,rfl,rfl,_,rfl,rfl,?_⟩;have m1:bC M p (.lst (adz a b (c+1) ns)) p=some (.lst (adz a b (c+1) ns)):=ao;have f1:∀ q,q≠p->bC M p (.lst (adz a b (c+1) ns)) q=M q:=λ q hq=>ar hq;show(bA _ _) D _ (bC M p (.lst (adz a b (c+1) ns)));generalize bC M p (.lst (adz a b (c+1) ns))=M1 at m1 f1;have fin:∀ (a':Int) (M2:MH),0<=a'->M2 p=some (.lst (adz a' b (c+1) ns))->(∀ q,q≠p->M2 q=M q) ->
   dU (dOp hU (dOp ip (dOp ip (dOp ju (dOp bL (aj 0) (dC (.d (.int 1)))) (dC (.d (.int 48271)))) (dOp hU (aj 2) (dC (.d (.int 2147483647))))) (dOp ju (dC (.d (.int 7919))) (dOp bL (aj 0) (dC (.d (.int 2)))))) (dC (.d (.int 2147483647)))) (ac1 (aj 0) (dC (.d (.int 1)))) D [some (.m p),some (.d (.int n)),some (.d (.int cell)),none,none,none] M2:=by
  intro a' M2 ha' m2 f2;have i1:ixW M2 (.m p) 1=some (.d (.int b)):=agu m2 rfl;have i2:ixW M2 (.m p) 2=some (.d (.int (c+1))):=agu m2 rfl;refine⟨_,rfl,_,_,rfl,i1,rfl,_,_,rfl,rfl,.inl ⟨by omega,by omega⟩,_,rfl,_,_,rfl,rfl,(by decide:(0:Int)<2147483647),.inl ?_⟩;refine⟨_,_,rfl,rfl,_,rfl,_,_,rfl,i2,rfl,_,_,rfl,rfl,.inl ⟨by decide,by decide⟩,.inl ?_⟩;refine⟨_,_,rfl,rfl,_,_,rfl,rfl,(by decide:(0:Int)<2147483647),_,rfl,_,_,_,_,rfl,rfl,m2,rfl,?_⟩;exact k a' _ (c+1) _ ha' (Int.emod_nonneg _ (by decide)) (Int.emod_lt_of_pos _ (by decide)) (by omega) ao λ q hq=>(ar hq).trans (f2 q hq)
 refine⟨_,rfl,_,_,rfl,rfl,_,rfl,?_⟩;refine lY (λ h=>?_) (λ h=>?_)
 ·refine⟨_,rfl,_,rfl,_,_,_,_,rfl,rfl,m1,rfl,?_⟩;exact fin cell _ hcell ao λ q hq=>(ar hq).trans (f1 q hq)
 ·exact fin a M1 ha m1 f1
theorem xp:∀ ws M Q,aR ws M Q->yi {nx:=λ _ M'=>Q (.d .none) M',rt:=Q} (gA xM ws) M:=by
 rintro ws M Q ⟨p,n,rfl,⟨a,b,c,ns,hm,ha,hb,hb2,hc,hns⟩,hn,hn2,k⟩;have i0:ixW M (.m p) 0=some (.d (.int a)):=agu hm rfl;have i2:ixW M (.m p) 2=some (.d (.int c)):=agu hm rfl;have i3:ixW M (.m p) 3=some (.d (.list (ns.map PyData.int))):=agu hm rfl;refine⟨_,rfl,_,_,rfl,i0,rfl,_,_,rfl,rfl,rfl,_,rfl,?_⟩;refine lY (λ h=>?_) (λ h=>?_)
 ·refine⟨_,rfl,_,_,rfl,i2,rfl,_,rfl,_,_,rfl,i3,rfl,_,_,rfl,rfl,rfl,_,_,rfl,rfl,_,rfl,?_⟩;refine lY (λ h=>?_) (λ h=>?_)
  ·have hlt:c<((ns.map PyData.int).length:Nat):=of_decide_eq_true h;have hlt':c.toNat<ns.length:=by rw[lm] at hlt;omega
   have ic:ixW M (.d (.list (ns.map PyData.int))) c=some (.d (.int (ns[c.toNat]'hlt'))):=by simp only[ixW];rw[aia hc hlt];simp
   refine⟨_,rfl,_,_,rfl,i3,rfl,_,rfl,_,_,rfl,i2,rfl,_,_,rfl,ic,rfl,?_⟩;refine qK (cell:=ns[c.toNat]'hlt') hm ha hb hb2 hc (hns _ (List.getElem_mem _)) λ a' b' c' M' h1 h2 h3 h4 h5 h6=>?_;exact k9 (x:=some (.d (.int (ns[c.toNat]'hlt')))) h5 h1 h2 h3 h4 hns hn hn2 (λ r M'' r0 r1 bg fr=>k r M'' r0 r1 bg λ q hq=>(fr q hq).trans (h6 q hq)) rfl
  ·refine qK (cell:=0) hm ha hb hb2 hc (Int.le_refl 0) λ a' b' c' M' h1 h2 h3 h4 h5 h6=>?_;exact k9 (x:=some (.d (.int 0))) h5 h1 h2 h3 h4 hns hn hn2 (λ r M'' r0 r1 bg fr=>k r M'' r0 r1 bg λ q hq=>(fr q hq).trans (h6 q hq)) rfl
 ·exact k9 (x:=none) hm ha hb hb2 hc hns hn hn2 k rfl
theorem aa0{ws:List W}{i:Nat}(h:ws[i]? =some w):(ws.take (i+1)).filterMap f=(ws.take i).filterMap f++(f w).toList:=by rw[List.take_add_one,h,List.filterMap_append];cases e:f w<;>simp[e]
theorem nR{tt:TTd}{te:TD}{fr:List Nat}{τ:DS}{M:MH}{Q:List PyData->MH->Prop}{ws:List W}(f:W->Option PyData)(hl:ws.length<=sizeLine)
  (step:∀ w∈ws,∀ P':Option PyData->Prop,P' (f w)->tt (some w::fr.map λ j=>(τ[j]?).getD none) M λ b M3=>if b=true then te (some w::fr.map λ j=>(τ[j]?).getD none) M3 λ y M4=>∃ d,y=.d d/\M4=M/\P' (some d) else M3=M/\P' none)
  (q:Q (ws.filterMap f) M):∃ P:Nat->List PyData->DS->MH->Prop,P 0 [] (aej 1 fr τ) M /\
   (∀ i w acc τ M,ws[i]? =some w->P i acc τ M->acc.length<sizeLine/\gN 0 w τ M λ τ2 M2=>tt τ2 M2 λ b M3=>if b=true then te τ2 M3 λ y M4=>∃ d,y=.d d/\P (i+1) (acc++[d]) τ2 M4 else P (i+1) acc τ2 M3) /\
   ∀ acc τ M,P ws.length acc τ M->Q acc M:=by
 let Pk:Nat->List PyData->DS->Prop:=λ i acc τ'=>i<=ws.length/\acc=(ws.take i).filterMap f/\∃ x,τ'=x::fr.map λ j=>(τ[j]?).getD none
 refine⟨λ i acc τ' M'=>M'=M/\Pk i acc τ',⟨rfl,Nat.zero_le _,rfl,none,rfl⟩,λ i w acc τ' M' hw hp=>?_,λ acc τ' M' hp=>?_⟩
 ·obtain⟨rfl,hi,rfl,x,rfl⟩:=hp;have hlt:i<ws.length:=(List.getElem?_eq_some_iff.mp hw).1;refine⟨?_,step w (List.mem_of_getElem? hw) (λ o=>match o with
   | some d=>Pk (i+1) ((ws.take i).filterMap f++[d]) (some w::fr.map λ j=>(τ[j]?).getD none)
   | none=>Pk (i+1) ((ws.take i).filterMap f) (some w::fr.map λ j=>(τ[j]?).getD none)) ?_⟩
  ·have h1:=List.length_filterMap_le f (ws.take i);rw[List.length_take] at h1;omega
  ·cases e:f w with
   | some d=>exact⟨hlt,by rw[aa0 hw,e];rfl,_,rfl⟩
   | none=>exact⟨hlt,by rw[aa0 hw,e];simp,_,rfl⟩
 ·obtain⟨rfl,hi,rfl,x,rfl⟩:=hp;rw[List.take_of_length_le (lr0 _)];exact q
theorem aim{tt:TTd}{te:TD}{fr:List Nat}{τ:DS}{M:MH}{Q:List PyData->MH->Prop}{ws:List W}(J:MH->Prop)(G:PyData->Prop)(hl:ws.length<=sizeLine)(j0:J M)
  (step:∀ w∈ws,∀ M',J M'->∀ P':Option PyData->MH->Prop,(∀ d M'',G d->J M''->P' (some d) M'')->(∀ M'',J M''->P' none M'') ->
   tt (some w::fr.map λ j=>(τ[j]?).getD none) M' λ b M3=>if b=true then te (some w::fr.map λ j=>(τ[j]?).getD none) M3 λ y M4=>∃ d,y=.d d/\P' (some d) M4 else P' none M3)
  (q:∀ acc M',J M'->(∀ d∈acc,G d)->acc.length<=ws.length->Q acc M'):∃ P:Nat->List PyData->DS->MH->Prop,P 0 [] (aej 1 fr τ) M /\
   (∀ i w acc τ M,ws[i]? =some w->P i acc τ M->acc.length<sizeLine/\gN 0 w τ M λ τ2 M2=>tt τ2 M2 λ b M3=>if b=true then te τ2 M3 λ y M4=>∃ d,y=.d d/\P (i+1) (acc++[d]) τ2 M4 else P (i+1) acc τ2 M3) /\
   ∀ acc τ M,P ws.length acc τ M->Q acc M:=by
 let Pk:Nat->List PyData->DS->MH->Prop:=λ i acc τ' M'=>acc.length<=i/\(∀ d∈acc,G d)/\J M'/\∃ x,τ'=x::fr.map λ j=>(τ[j]?).getD none
 refine⟨Pk,⟨lr0 _,λ d h=>(nomatch h),j0,none,rfl⟩,λ i w acc τ' M' hw hp=>?_,λ acc τ' M' hp=>?_⟩
 ·obtain⟨hi,hg,hj,x,rfl⟩:=hp;have hlt:i<ws.length:=(List.getElem?_eq_some_iff.mp hw).1;refine⟨by omega,step w (List.mem_of_getElem? hw) M' hj (λ o M2=>match o with
   | some d=>Pk (i+1) (acc++[d]) (some w::fr.map λ j=>(τ[j]?).getD none) M2
   | none=>Pk (i+1) acc (some w::fr.map λ j=>(τ[j]?).getD none) M2) (λ d M2 gd j2=>?_) λ M2 j2=>?_⟩
  ·refine⟨by rw[List.length_append,List.length_singleton];omega,λ d' hd'=>?_,j2,_,rfl⟩;rcases List.mem_append.mp hd' with z | z
   ·exact hg d' z
   ·rw[List.mem_singleton.mp z];exact gd
  ·exact⟨by omega,hg,j2,_,rfl⟩
 ·obtain⟨hi,hg,hj,x,rfl⟩:=hp;exact q acc M' hj hg hi
theorem aiw{α:Type}(g:α->W)(f:W->Option PyData)(h:α->PyData)(e:∀ a,f (g a)=some (h a))(l:List α):(l.map g).filterMap f=l.map h:=by
 induction l with
 | nil=>rfl
 | cons a l ih=>rw[List.map_cons,List.filterMap_cons,e,ih];rfl
theorem zA:∀ ws M Q,gq ws M Q->abD {nx:=λ _ M'=>Q (.d .none) M',rt:=Q} (gA aa2 ws) M:=by
 rintro ws M Q ⟨ns,rfl,hl,k⟩;refine⟨_,rfl,_,rfl,_,rfl,rfl,_,rfl,?_⟩;have ec:cutD (ns.map PyData.int) none (some 63)=(cutD ns none (some 63)).map PyData.int:=by simp only[cutD,lm,List.map_take,List.map_drop]
 have hlen:(cutD ns none (some 63)).length<=ns.length:=by simp only[cutD,List.length_take,List.length_drop];omega
 have h1000:(1000:Nat)<=sizeLine:=by rw[sizeLine_eq];decide
 dsimp only;refine nR (λ w=>match w with
  | .d (.int n)=>some (.int (if n<0 then -n else n))
  | _=>none) ?hl (λ w hw P' hp=>?_) ?_
 case hl=>rw[lm,ec,lm];omega
 ·rw[ec,List.map_map] at hw;obtain⟨n,_,rfl⟩:=List.mem_map.mp hw;exact⟨_,rfl,_,rfl,_,rfl,rfl,hp⟩
 ·have e2:(List.map W.d (cutD (ns.map PyData.int) none (some 63))).filterMap (λ w=>match w with
    | .d (.int n)=>some (PyData.int (if n<0 then -n else n))
    | _=>none)=((cutD ns none (some 63)).map λ n=>if n<0 then -n else n).map PyData.int:=by
   rw[ec,List.map_map,aiw (W.d ∘ PyData.int) _ (λ n=>PyData.int (if n<0 then -n else n)) (λ n=>rfl),List.map_map];rfl
  rw[e2];refine⟨by simp[sizeLine_eq],λ p hp=>k p _ hp (λ q hq=>ar hq) ⟨0,1234567891,0,_,ao,Int.le_refl 0,by decide,by decide,Int.le_refl 0,λ n hn=>?_⟩⟩;obtain⟨m,_,rfl⟩:=List.mem_map.mp hn
  split<;>omega
theorem abT{K:FG}{H:Hp}{a:Addr}{ns:List Int}{sp:SpD}(hl:ns.length<=63)(hO:L2.akb H)(hS:L2.SqL K H a (ns.map V.int))(h:∀ ns:List Int,ns.length<=63->sp [.d (.list (ns.map PyData.int))] (λ _=>none) (λ w _=>w=.d (.bool true))) :
  dH K sp [.ref a] H (λ v _=>v=.bl true) λ _ _ _=>False:=by
 refine⟨[.d (.list (ns.map PyData.int))],λ _=>none,_,.cons ?_ .nil,λ a o z=>(nomatch z),h ns hl,λ v H' w M' kp r m q=>?_⟩
 ·simp only[aQ,aN];refine⟨a,_,rfl,?_,bJ.ints ns⟩;rcases hS with (h | h) | h
  ·rcases hO a with z | ⟨ob,xs,z⟩
   ·rw[h] at z;cases z
   ·rw[h] at z;cases z
  ·exact .inl h
  ·exact .inr h
 ·subst q;simp only[aQ,aN] at r;exact r
def acz(z:Str):Bool:=z.cps.all (·<128)
mutual
def big:PyData->Nat
 | .none=>4
 | .bool _=>5
 | .int _=>2000
 | .str z=>10 * z.length+2
 | .list ds=>iA ds+2
 | .tuple ds=>iA ds+3
 | .dict kvs=>aiG kvs+2
def iA:List PyData->Nat
 | []=>0
 | d::ds=>big d+2+iA ds
def aiG:List (PyData×PyData)->Nat
 | []=>0
 | (k,d)::ds=>big k+2+big d+2+aiG ds
end
mutual
def il:PyData->Bool
 | .none=>true
 | .bool _=>true
 | .int i=>decide (i.natAbs.log2<1920)
 | .str z=>acz z
 | .list ds=>pz ds
 | .tuple ds=>pz ds
 | .dict kvs=>yL kvs
def pz:List PyData->Bool
 | []=>true
 | d::ds=>il d&&pz ds
def yL:List (PyData×PyData)->Bool
 | []=>true
 | (k,d)::ds=>il k&&il d&&yL ds
end
theorem vI:∀ ts:List Str,(listText ts).length<=piled ts+2
 | []=>by decide +kernel
 | t::r=>by
  have h:=textFrom_length_pos r 1 (("[" : Str)++(if (0:Nat) > 0 then ", " else "" : String)++t) (Nat.succ_pos 0);have e:((("[" : Str)++(if (0:Nat) > 0 then ", " else "" : String)++t)).length=1+t.length:=by rw[strLen_append,strLen_append];rfl
  have hX:(listText (t::r)).length=(textFrom 0 "[" (t::r)).length+1:=by show(textFrom 0 "[" (t::r) ++ "]").length=_;rw[strLen_append];rfl
  have h2:(textFrom 0 "[" (t::r)).length=(1+t.length)+piled r:=by rw[<- e];exact h
  have h3:piled (t::r)=t.length+2+piled r:=by simp[piled]
  omega
theorem join_le(ts:List Str):(Str.join ", " ts).length<=piled ts:=by
 cases ts with
 | nil=>decide +kernel
 | cons t r=>have:=join_length_add (t::r) (by simp);omega
theorem tf(ts:List Str):(tupleText ts).length<=piled ts+3:=by
 unfold tupleText;rw[strLen_append,strLen_append];have e1:((("(" : String):Str)).length=1:=rfl;have e3:(((if ts.length==1 then ",)" else ")" : String):Str)).length<=2:=by split<;>decide
 have:=join_le ts;omega
theorem vK(ts:List Str):(dictText ts).length<=piled ts+2:=by
 unfold dictText;rw[strLen_append,strLen_append];have e1:((("{" : String):Str)).length=1:=rfl;have e2:((("}" : String):Str)).length=1:=rfl;have:=join_le ts;omega
theorem agW{i:Int}(h:i.natAbs.log2<1920):(Str.ofString (toString i)).length<=2000:=by have e:=int_text_length_le (k:=1920) (by decide) h;rw[PySem.ofString_length];omega
theorem repr_len(h:acz z=true):(reprText z).length<=10 * z.length+2:=StrLaws.reprText_len z λ c hc=>by
 have:=Array.all_eq_true_iff_forall_mem.mp h c (by simpa using hc);have h2:c<128:=by simpa using this
 omega
mutual
theorem shown_le:∀ d:PyData,il d=true->d.shown.length<=big d
 | .none,_=>by rw[PyData.shown];decide +kernel
 | .bool b,_=>by rw[PyData.shown];cases b<;>decide +kernel
 | .int i,h=>by rw[PyData.shown];exact agW (by simpa [il] using h)
 | .str z,h=>by rw[PyData.shown,big];exact repr_len (by simpa [il] using h)
 | .list ds,h=>by have h1:=oO ds (by simpa [il] using h);have h2:=vI (PyData.shownAll ds);rw[PyData.shown,big];omega
 | .tuple ds,h=>by have h1:=oO ds (by simpa [il] using h);have h2:=tf (PyData.shownAll ds);rw[PyData.shown,big];omega
 | .dict ds,h=>by have h1:=s9 ds (by simpa [il] using h);have h2:=vK (PyData.shownKv ds);rw[PyData.shown,big];omega
theorem oO:∀ ds:List PyData,pz ds=true->piled (PyData.shownAll ds)<=iA ds
 | [],_=>by simp[PyData.shownAll,piled,iA]
 | d::ds,h=>by simp only[pz,ae00] at h;have h1:=shown_le d h.1;have h2:=oO ds h.2;simp only[PyData.shownAll,piled_cons,iA];omega
theorem s9:∀ ds:List (PyData×PyData),yL ds=true->piled (PyData.shownKv ds)<=aiG ds
 | [],_=>by simp[PyData.shownKv,piled,aiG]
 | (k,d)::ds,h=>by simp only[yL,ae00] at h;have h1:=shown_le k h.1.1;have h3:=shown_le d h.1.2;have h2:=s9 ds h.2;have e:((((": " : String):Str))).length=2:=rfl;simp only[PyData.shownKv,piled_cons,aiG,strLen_append,e];omega
end
mutual
theorem kG:∀ d:PyData,il d=true->d.showable=true
 | .none,_=>by simp[PyData.showable]
 | .bool b,_=>by simp[PyData.showable]
 | .int i,h=>by simpa [PyData.showable,il] using h
 | .str z,h=>by simp[PyData.showable]
 | .list ds,h=>by simpa [PyData.showable] using lq ds (by simpa [il] using h)
 | .tuple ds,h=>by simpa [PyData.showable] using lq ds (by simpa [il] using h)
 | .dict ds,h=>by simpa [PyData.showable] using qC ds (by simpa [il] using h)
theorem lq:∀ ds:List PyData,pz ds=true->PyData.showableAll ds=true
 | [],_=>by simp[PyData.showableAll]
 | d::ds,h=>by simp only[pz,ae00] at h;simp[PyData.showableAll,kG d h.1,lq ds h.2]
theorem qC:∀ ds:List (PyData×PyData),yL ds=true->PyData.showableKv ds=true
 | [],_=>by simp[PyData.showableKv]
 | (k,d)::ds,h=>by simp only[yL,ae00] at h;simp[PyData.showableKv,kG k h.1.1,kG d h.1.2,qC ds h.2]
end
theorem s16:(1000000:Nat)<=sizeLine:=by rw[sizeLine_eq];decide
theorem ag9(h:il d=true)(hb:big d<=1000000)(hd:d.depth<=60)(hk:d.hasDict=false):eI d=true:=by have h1:=kG d h;have h2:=shown_le d h;have h3:=s16;simp only[eI,h1,Bool.true_and,ae00,decide_eq_true_eq,Bool.or_eq_true,Bool.not_eq_true'];exact⟨⟨by omega,hd⟩,.inl hk⟩
end D
namespace D
open L2
def Asc(z:Str):Prop:=∀ c∈z.cps.toList,c<128
theorem str_len(z:Str):z.cps.toList.length=z.length:=by simp[Str.length]
theorem afg(h:z.cps.all (·<128)=true):Asc z:=by
 intro c hc;have:=Array.all_eq_true_iff_forall_mem.mp h c (by simpa using hc)
 simpa using this
theorem log2_small(h:n<2 ^ 100):n.log2<1920:=by
 by_cases h0:n=0
 ·subst h0;decide
 ·exact Nat.lt_of_lt_of_le ((Nat.log2_lt h0).mpr h) (by decide)
theorem few(h:n<=1000):n<=sizeLine:=by have:=s16;omega
theorem Inv.swap(I:Inv X pins σ H s)(h:H a=some u)(n1:∀ xs,u ≠ .tup xs)(n2:∀ x,u ≠ .own x)(b1:∀ xs,X.H₀ a≠some (.tup xs))(b2:∀ o v,X.H₀ a≠some (.frz o v))(b3:∀ ps,X.H₀ a≠some (.tbl ps))
  (new:cZ X.prog X.w (upd H a u') s.heap a u'):Inv X pins σ (upd H a u') s:=by
 have nn:∀ b,H b=none->b≠a:=λ b e z=>by rw[z,h] at e;cases e
 refine⟨I.ok,I.os,I.bare,⟨I.base.keep,I.base.slot,λ b ob q n x=>?_,I.base.there,λ b xs q=>?_,λ b ob v q=>?_,λ b ps q=>?_⟩,I.loc,I.cell,?_,λ x c q=>?_,λ p hp=>?_,λ b v q=>?_,I.len⟩
 ·have:=I.base.free b ob q n x;rw[aB (nn b this)];exact this
 ·rw[aB (λ z:b=a=>b1 xs (by rw[<- z];exact q))];exact I.base.tups b xs q
 ·rw[aB (λ z:b=a=>b2 ob v (by rw[<- z];exact q))];exact I.base.frzs b ob v q
 ·rw[aB (λ z:b=a=>b3 ps (by rw[<- z];exact q))];exact I.base.tbls b ps q
 ·rw[aB (nn _ I.free)];exact I.free
 ·have:=I.freeC x c q;rw[aB (nn c this)];exact this
 ·obtain⟨p1,p2,p3⟩:=I.pin p hp;exact⟨p1,by rw[aB (nn _ p2)];exact p2,p3⟩
 ·by_cases hb:b=a
  ·subst hb;rw[aA] at q;cases q;exact new
  ·rw[aB hb] at q;refine(I.hok b v q).vB (λ _ _ _ q=>q) (λ c r=>?_) λ c xs r=>?_
   ·rw[aB (λ z=>by rw[z,h] at r;exact n2 _ (Option.some.inj r))];exact r
   ·rw[aB (λ z=>by rw[z,h] at r;exact n1 _ (Option.some.inj r))];exact r
section
variable {K:FG}{H:Hp}{a:Addr}{o:Obj}{l:List (Key×V)}
end
def aeu(_:DS)(_:MH)(_:QD):Prop:=False
theorem Inv.aeT{D:Addr}{ys:List V}{us:List Value}{n:Nat}(I:Inv X pins σ H s)(e:s.heap.get? D=some {cls:=.type "tuple",data:=.seq us.toArray n})(hn:H D=none)(hv:Vals ys us)(hz:ys.length<=sizeLine)
  (h0:D∈X.ex\/X.s₀.heap.objs.size<=D)(hL:D≠X.env.locals)(hc:∀ x c,X.env.cells.lookup x=some c->c≠D)(hp:∀ p∈X.pn++pins,p.1≠D):Inv X pins σ (upd H D (.tup ys)) s:=by
 have ne:∀ b u,H b=some u->b≠D:=λ b u q=>bI q hn;refine I.step (h':=s.heap) (g':=s.gens) (d':=s.drawn) (t':=s.toks) (ch:=[D]) (λ b hb=>?_) (λ b o _ _ _ q _=>q) (λ b o _ _ _ q _=>⟨o.slots,q⟩) (λ b o hb q n=>?_) (λ b o _ q=>⟨o,q⟩)
  (λ b xs q=>by rw[aB (ne b _ q)];exact q) (λ b o u q=>by rw[aB (ne b _ q)];exact q) (λ b ps q=>⟨#[],by rw[aB (ne b _ q),q];simp⟩) (λ m hm=>hm) (λ b u q=>?_) I.bare
 ·have e:b=D:=by simpa using hb
  subst e;exact⟨h0,hL,hc,hp⟩
 ·rw[aB (λ z=>hb (by simp[z]))];exact n
 ·by_cases hb:b=D
  ·subst hb;rw[aA] at q;cases q;exact⟨hz,us,hv,⟨_,e,rfl,rfl,n,rfl⟩⟩
  ·rw[aB hb] at q;exact(I.hok b u q).vB (λ _ _ _ q=>q) (λ c r=>by rw[aB (ne c _ r)];exact r) λ c xs r=>by rw[aB (ne c _ r)];exact r
section
variable {X:Cx}{K:FG}{tg o:Expr}{apos cpos:Pos}{td:TD}
def ik(kds:List (Key×PyData)):List (Key×W):=kds.map λ p=>(p.1,.d p.2)
end
theorem uz:∀ {zs:List Str} {its:List Value},Vals (zs.map V.str) its->StrsAre its zs
 | [],its,h=>by cases h;exact .nil
 | z::zs,its,h=>by
  cases h with
  | cons r t =>
   obtain⟨tk,e⟩:=(show ∃ t,_=Value.str z t from r);subst e;exact .cons z tk (uz t)
theorem uh:∀ {zs:List Str} {its:List Value},StrsAre its zs->Vals (zs.map V.str) its
 | _,_,.nil=>.nil
 | _,_,.cons y t h=>.cons ⟨t,rfl⟩ (uh h)
theorem t9:bootBuiltins "sorted" = some (.builtin "sorted"):=by decide +kernel
section
variable {X:Cx}{K:FG}
theorem u5:fZ X (.builtin "sorted") (λ xs H Q=>∃ p zs,xs=[.ref p]/\SqL X.K H p (zs.map V.str)/\zs.length<64/\∀ zs',zs'.Perm zs->sortedS zs'=true->∀ l,H l=none->Q (.ref l) (upd H l (.lst (zs'.map V.str)))):=by
 intro pins s σ H xs us Q I r h;obtain⟨p,zs,rfl,hq,hz,q⟩:=h;obtain⟨u,rfl,rx⟩:=vals1 r;cases rx;obtain⟨its,rv,pl,_⟩:=I.list hq;have hl:=rv.length;rw[lm] at hl;refine sorted_strs pl.isList (uz rv) (by omega) λ out zs' hs hp hso=>?_;obtain⟨n,e⟩:=sortedAll_at s.heap its out;have hfr:H (s.heap.objs.size+1)=none:=I.hok.fresh (Nat.le_succ _);refine⟨.ref _,_,I.laid (a:=s.heap.objs.size+1) (o:=.lst (zs'.map V.str)) (t':=s.toks) (λ b o z=>sortedAll_old z) (Nat.le_succ _) ⟨?_,out.toList,n,uh hs,?_⟩,rfl,q zs' hp hso _ hfr⟩
 ·rw[lm,hp.length_eq];have:=s16;omega
 ·simpa using e
def aax(ws:List W)(M:MH)(Q:QD):Prop:=∃ w zs,ws=[w]/\afP M w (zs.map PyData.str)/\zs.length<64/\∀ zs',zs'.Perm zs->sortedS zs'=true->∀ p,M p=none->Q (.m p) (bC M p (.lst (cV zs')))
theorem ua{H:Hp}:∀ {zs:List Str} {vs:List V},bJ K H (zs.map PyData.str) vs->vs=zs.map V.str
 | [],vs,h=>by simpa [bJ] using h
 | z::zs,vs,h=>by simp only[List.map_cons,bJ] at h;obtain⟨v,r,e,h1,h2⟩:=h;simp only[aN] at h1;rw[e,h1,ua h2];rfl
theorem uv{H:Hp}:∀ (zs:List Str),bu K H (cV zs) (zs.map V.str)
 | []=>.nil
 | z::zs=>.cons (by simp[aQ,aN]) (uv zs)
theorem adI:iz K (λ xs H Q=>∃ p zs,xs=[.ref p]/\SqL K H p (zs.map V.str)/\zs.length<64/\∀ zs',zs'.Perm zs->sortedS zs'=true->∀ l,H l=none->Q (.ref l) (upd H l (.lst (zs'.map V.str)))) aax:=by intro vs H ws M Qd Q r m ⟨w,zs,e,g,hz,q⟩ k;subst e;obtain⟨v,e1,r1⟩:=gb r;obtain⟨p,ys,ev,hs,ra⟩:=g.sound r1 m;have ey:=ua ra;subst ev ey;refine⟨p,zs,e1,hs,hz,λ zs' h1 h2 l hl=>?_⟩;have kp:Kp H (upd H l (.lst (zs'.map V.str))):=Kp.new hl;exact k _ _ (.m l) _ kp rfl (m.put (mo:=.lst (cV zs')) kp ⟨_,aA,uv zs'⟩) (q zs' h1 h2 l (m.free hl))
end
section
variable {X:Cx}{K:FG}
theorem fN:fZ X (.builtin "isinstance") (λ xs H Q=>∃ x d T,xs=[x,.ty T]/\md X.K H d x/\Ty6 T/\Q (.bl (vo d T)) H):=by
 intro pins s σ H xs us Q I r h;obtain⟨x,d,T,rfl,rd,h6,q⟩:=h;rcases rd with rd | ⟨a,vs,ds,rfl,rfl,ha,ra⟩
 ·exact acb pins s σ H _ us Q I r ⟨x,d,T,rfl,rd,h6,q⟩
 obtain⟨u,w',rfl,rx,ry⟩:=vals2 r;cases (show w'=Value.type T from ry);have e:=abL (K:=X.K) (.list ds) h6;have fin:∀ tk,EP X pins σ Q (.bool (vo (.list ds) T)) {s with toks:=tk}:=λ tk=>⟨.bl _,H,I.tok _,rfl,q⟩;generalize vo (.list ds) T=b at e fin;cases (show u=Value.ref a from rx);obtain⟨its,rv,⟨o,n,e1,e2,e3,e4⟩,hz⟩:=I.list (.inl (.inl ha));exact W.kia_one W.kitx_list I.kIn ⟨_,e1,e2⟩ e (λ z=>nomatch z) fin
def lS(ws:List W)(M:MH)(Q:QD):Prop:=∃ w d T,ws=[w,.t T]/\zM M w d/\Ty6 T/\Q (.d (.bool (vo d T))) M
theorem jD:iz K (λ xs H Q=>∃ x d T,xs=[x,.ty T]/\md K H d x/\Ty6 T/\Q (.bl (vo d T)) H) lS:=by intro vs H ws M Qd Q r m ⟨w,d,T,e,g,h6,q⟩ k;subst e;obtain⟨v,v',e1,r1,r2⟩:=xS r;simp only[aQ] at r2;subst r2;exact⟨v,d,T,e1,g.sound r1 m,h6,k _ H (.d (.bool _)) M (Kp.refl H) (by simp[aQ,aN]) m q⟩
end
theorem aaS:Jd (PD X e aeu):=⟨λ pins s σ H Q I ⟨τ,M,Qd,A,h,k⟩=>h.elim⟩
end D
namespace S
open PySem PySem.W PyProof.Rows
def go{α:Type}(lt:Nat->Nat->Bool):KasT α->α
 | .ret a=>a
 | .ask i j k=>go lt (k (lt i j))
abbrev g(p:Array Nat)(i:Nat):Nat:=p.getD i 0
theorem al6(p:Array Nat)(i:Nat):g p i=(p[i]?).getD 0:=by simp[g]
def mF(N:Nat)(R:α->Prop):KasT α->Prop
 | .ret a=>R a
 | .ask i j k=>i<N/\j<N/\∀ b,mF N R (k b)
theorem mF.bind{α β:Type}{N:Nat}{R:α->Prop}{R':β->Prop}{f:α->KasT β}(hf:∀ a,R a->mF N R' (f a)):∀ {t:KasT α},mF N R t->mF N R' (t.bind f)
 | .ret a,h=>hf a h
 | .ask i j k,h=>⟨h.1,h.2.1,λ b=>mF.bind hf (h.2.2 b)⟩
theorem aeQ(hc:∀ i j,i<N->j<N->∀ (C:Bool->Shared->Prop),C (lt i j) s->cmp i j C s) :
  ∀ t:KasT α,mF N R t->Q (go lt t) s->t.kasWp cmp Q s
 | .ret _,_,h=>h
 | .ask i j k,a,h=>hc i j a.1 a.2.1 _ (aeQ hc (k (lt i j)) (a.2.2 _) h)
def Low(N:Nat)(p:Array Nat):Prop:=∀ i,g p i<N
theorem Low.of(hN:1<=N)(h:∀ x∈p.toList,x<N):Low N p:=λ i=>by
 rw[al6];cases e:p[i]? with
 | none=>simp;omega
 | some x=>exact h x (by rw[Array.mem_toList_iff];exact Array.mem_of_getElem? e)
theorem Low.mem(h:Low N p):∀ x∈p.toList,x<N:=λ x hx=>by rw[Array.mem_toList_iff] at hx;obtain⟨i,hi,e⟩:=Array.mem_iff_getElem.mp hx;have:=h i;rw[al6] at this;simp[hi] at this;omega
theorem Low.perm(hN:1<=N)(h:Low N p)(e:q.Perm p):Low N q:=.of hN λ x hx=>h.mem x ((Array.perm_iff_toList_perm.mp e).mem_iff.mp hx)
theorem Low.rev(hN:1<=N)(h:Low N p):Low N (kas_rev p i j):=h.perm hN (mirror_perm _ _ _ _)
theorem kP(h:Low N p):∀ f n,mF N (λ _=>True) (kas_asc p f n)
 | 0,_=>trivial
 | f+1,n=>⟨h _,h _,λ b=>by
  cases b with
  | true=>exact trivial
  | false=>exact kP h f (n+1)⟩
theorem kj(hN:1<=N):∀ (f:Nat) {p:Array Nat} (n q:Nat),Low N p->mF N (λ r=>Low N r.1) (kas_desc f p n q)
 | 0,p,n,q,h=>h
 | f+1,p,n,q,h=>⟨h _,h _,λ b=>by
  cases b with
  | true =>
   simp only[if_true]
   split
   ·exact kj hN f (n+1) 0 (h.rev hN)
   ·exact kj hN f (n+1) 0 h
  | false =>
   simp only[Bool.false_eq_true,if_false];refine⟨h _,h _,λ b=>?_⟩;cases b with
   | true=>exact h
   | false=>exact kj hN f (n+1) (q+1) h⟩
theorem pZ(hN:1<=N){p:Array Nat}{n m:Nat}(h:Low N p):mF N (λ(r:Nat×Array Nat)=>Low N r.2) (kas_tail3 n m p):=by
 unfold kas_tail3;refine mF.bind (λ k _=>?_) (kP (h.rev hN) _ _);exact(h.rev hN:Low N (kas_rev p 0 n))
theorem jH(hN:1<=N){p:Array Nat}{n m:Nat}(h:Low N p):mF N (λ r=>Low N r.2) (kas_descPart n m p):=(kj hN _ _ _ h).bind λ r hr=>by
 split
 ·exact pZ hN (hr.rev hN)
 ·exact pZ hN hr
theorem zD(hN:1<=N){p:Array Nat}{m:Nat}(h:Low N p):mF N (λ r=>Low N r.2) (kas_count m p):=(kP h _ _).bind λ n _=>by
 split
 ·exact h
 ·split
  ·refine⟨h _,h _,λ b=>?_⟩;cases b with
   | true=>exact h
   | false=>exact jH hN (h.rev hN)
  ·exact jH hN h
theorem iY{p:Array Nat}{k:Nat}(h:Low N p):∀ f l r,mF N (λ _=>True) (kas_place p k f l r)
 | 0,_,_=>trivial
 | f+1,l,r=>by
  simp only[kas_place]
  split
  ·exact trivial
  ·refine⟨h _,h _,λ b=>?_⟩;cases b with
   | true=>exact iY h f _ _
   | false=>exact iY h f _ _
theorem xY(hN:1<=N):∀ (f:Nat) {p:Array Nat} (k:Nat),Low N p->mF N (λ _=>True) (kas_bin f p k)
 | 0,_,_,_=>trivial
 | f+1,p,k,h=>(iY h _ _ _).bind λ l _=>xY hN f (k+1) (h.perm hN (bubble_perm _ _ _))
theorem zX(hN:1<=N):mF N (λ _=>True) (kas_sort N):=(zD hN (.of hN λ x hx=>by simpa using hx)).bind λ r hr=>by
 split
 ·exact xY hN _ _ hr
 ·exact trivial
def mU(lt:Nat->Nat->Bool)(n:Nat):List Nat:=if n<2 then List.range n else (go lt (kas_sort n)).toList
def dR(h:Heap)(a:Addr)(vs:List Value):Heap:=((h.update a (Obj.mapSeq λ _=>#[])).push (seqObj "tuple" vs.toArray 0)).push (seqObj "list" #[] 0)
theorem vQ(hb:h.get? b=some o)(hne:b≠a):(dR h a vs).get? b=some o:=by have q:b<h.objs.size:=Heap.lt_size hb;have q1:=Nat.ne_of_lt q;have q2:=Nat.ne_of_lt (Nat.lt_succ_of_lt q);unfold dR;rw[Heap.get?_push_ne _ _ _ (by rw[size_push',Heap.size_update];exact q2),Heap.get?_push_ne _ _ _ (by rw[Heap.size_update];exact q1),Heap.get?_update_ne _ _ _ _ hne];exact hb
theorem yE{vs us:List Value}{n:Nat}(ho:h.get? a=some (seqObj "list" us.toArray n)):∃ e,(h.update a (Obj.mapSeq λ _=>(#[]:Array Value))).get? a=some (seqObj "list" #[] e)/\(dR h a vs).get? a=some (seqObj "list" #[] e):=by have q:a<h.objs.size:=Heap.lt_size ho;have q1:=Nat.ne_of_lt q;have q2:=Nat.ne_of_lt (Nat.lt_succ_of_lt q);refine⟨_,get?_update_seq ho λ _=>#[],?_⟩;unfold dR;rw[Heap.get?_push_ne _ _ _ (by rw[size_push',Heap.size_update];exact q2),Heap.get?_push_ne _ _ _ (by rw[Heap.size_update];exact q1)];exact get?_update_seq ho λ _=>#[]
theorem aa1(ho:s.heap.get? a=some (seqObj "list" vs.toArray n))(h64:vs.length<64)
  (hk:2<=vs.length->∀ (Q:SortKind->Shared->Prop),Q κ {s with heap:=dR s.heap a vs}->wpAny (model prog w) A (keyKind' vs.toArray) Q E {s with heap:=dR s.heap a vs})
  (hc:∀ i j,i<vs.length->j<vs.length->∀ (C:Bool->Shared->Prop),C (lt i j) {s with heap:=dR s.heap a vs}->kas_ask prog w A κ vs i j C {s with heap:=dR s.heap a vs})
  (h:P (.done (.ret .none)) {s with heap:=sortedHeap s.heap a vs ((mU lt vs.length).map λ i=>vs.getD i Value.none).toArray}) :
  wpAny (model prog w) A (Builtin.«list.sort» ⟨[.ref a],[]⟩) P E s:=by
 have hz:vs.toArray.size=vs.length:=by simp
 obtain⟨e1,o1,o2⟩:=yE (vs:=vs) ho;rw[list_sort_plain];refine wb0 (listItems_at ho rfl (wb0 (listUpdate_at ho rfl (wb0 (seqEpoch_at o1 rfl (wb0 (wpAny_newTuple (wb0 (wpAny_newList (wpAny_holding ?_))))))))));show wpAny _ _ _ P E {s with heap:=dR s.heap a vs};dsimp only;have fits:∀ {p:Array Nat},p.size=vs.length->(List.toArray (p.toList.map λ i=>vs.getD i Value.none)).size<=sizeLine+1:=λ {p} hp=>by rw[List.size_toArray,lm,Array.length_toList,hp,sizeLine_eq];omega
 by_cases h2:vs.length<2
 ·rw[if_pos (by rw[hz];exact h2),if_pos (by rw[hz];exact h2)];refine wb0 (wp0 ?_);rw[StateT.run_pure];refine wb0 (wp0 ?_);dsimp only;have out:=kat_snds (ks:=vs) (vs:=vs) rfl (st:=SortSt.mk' general' (vs.toArray.zip vs.toArray) #[] 7 none) (p:=List.toArray (List.range vs.length)) (by have e:=kas_range (vs.toArray.zip vs.toArray);rw[show(vs.toArray.zip vs.toArray).size=vs.length by simp] at e;exact e.symm)
  rw[out];refine wb0 (seqEpoch_at o2 rfl (wb0 (listUpdate_at o2 rfl ?_ (hsz2:=fits (by simp)))));simp only[bne_self_eq_false,Bool.false_eq_true,if_false];unfold mU at h;rw[if_pos h2] at h;exact wp0 h
 ·rw[if_neg (by rw[hz];exact h2),if_neg (by rw[hz];exact h2)];refine wb0 (hk (by omega) _ (wb0 (wpAny_mono (kat_run (ks:=vs) (vs:=vs) (κ:=κ) (Q:=λ st' s'=>s'={s with heap:=dR s.heap a vs}/\failedOf st'=none/\(arrOf st').map (·.2)=List.toArray ((mU lt vs.length).map λ i=>vs.getD i Value.none)/\(mU lt vs.length).length=vs.length)
   (G:=λ p s'=>s'={s with heap:=dR s.heap a vs}/\p=go lt (kas_sort vs.length)) rfl (by omega) h64 (λ p st' s' a1 a2 a3 a4=>⟨a4.1,a3,?_,?_⟩) (aeQ hc _ (zX (by omega)) ⟨rfl,rfl⟩)) ?_ λ _ _ e=>e)))
  ·unfold mU;rw[if_neg h2,<- a4.2];exact kat_snds rfl a2
  ·unfold mU;rw[if_neg h2,<- a4.2,Array.length_toList,a1]
  ·rintro⟨⟨⟩,st'⟩ s' ⟨rfl,hf,har,hln⟩;dsimp only;rw[har];refine wb0 (seqEpoch_at o2 rfl (wb0 (listUpdate_at o2 rfl ?_ (hsz2:=by rw[List.size_toArray,lm,hln,sizeLine_eq];omega))));rw[hf];simp only[bne_self_eq_false,Bool.false_eq_true,if_false];exact wp0 h
end S
namespace D
open L2 S
section
variable {K:FG}
end
section
variable {X:Cx}{K:FG}
end
theorem ai8(x:cZ P w H h a o):∃ ob,h.get? a=some ob:=by
 induction o with
 | lst xs=>obtain⟨_,_,_,_,e⟩:=x;exact⟨_,e⟩
 | tup xs=>obtain⟨_,_,_,ob,e,_⟩:=x;exact⟨_,e⟩
 | dK kvs=>obtain⟨_,_,_,_,o,_,_,e,_⟩:=x;exact⟨_,e⟩
 | dT kvs=>obtain⟨_,_,_,_,o,_,_,e,_⟩:=x;exact⟨_,e⟩
 | set S n=>obtain⟨o,_,_,_,e,_⟩:=x;exact⟨_,e⟩
 | ins C dx fs=>obtain⟨_,_,_,e,_⟩:=x;exact⟨_,e⟩
 | own y=>obtain⟨_,e⟩:=x;exact⟨_,e⟩
 | xd fs=>obtain⟨_,⟨_,_,_,e,_⟩,_⟩:=x;exact⟨_,e⟩
 | rng lo hi=>obtain⟨_,_,_,e⟩:=x;exact⟨_,e⟩
 | frz ob u ih=>obtain⟨e,_⟩:=x;exact⟨_,e⟩
 | tbl ps=>exact⟨_,show h.get? a=some _ from x⟩
 | met f y=>exact⟨_,show h.get? a=some _ from x⟩
 | ext φ=>obtain⟨_,⟨_,e⟩,_⟩:=x;exact⟨_,e⟩
theorem rY(x:HOk P w H h)(e:h.get? a=none):H a=none:=by
 cases q:H a with
 | none=>rfl
 | some u =>
  obtain⟨ob,z⟩:=ai8 (x a u q);rw[e] at z;cases z
theorem Inv.akn(I:Inv X pins σ H s)(k:∀ b u,s.heap.get? b=some u->h'.get? b=some u)(hp:s.heap.get? a=none)(new:cZ X.prog X.w (upd H a o) h' a o) :
  Inv X pins σ (upd H a o) {s with heap:=h',toks:=t'}:=by
 have hn:=rY I.hok hp;have ne:∀ b u,s.heap.get? b=some u->b≠a:=λ b u e z=>by rw[z,hp] at e;cases e
 refine I.un ⟨λ b ob e _ _ _=>k b ob e,λ b ob e _ _ _=>⟨ob.slots,k b ob e⟩,λ b ob e n _=>by rw[aB (ne b ob e)];exact n,λ b ob e _=>⟨ob,k b ob e⟩,λ b xs e=>by rw[aB (bI e hn)];exact e,λ b ob u e=>by rw[aB (bI e hn)];exact e,λ b ps e=>⟨#[],by rw[aB (bI e hn),e];simp⟩⟩ λ b u e=>?_
 by_cases hb:b=a
 ·subst hb;rw[aA] at e;cases e;exact new
 ·rw[aB hb] at e;exact(I.hok b u e).vB (λ c v _ q=>k c v q) (λ c q=>by rw[aB (bI q hn)];exact q) λ c xs q=>by rw[aB (bI q hn)];exact q
section
variable {X:Cx}{K:FG}
def isNone:W->Bool
 | .d .none=>true
 | _=>false
theorem qd(r:aQ K H w v):decide (v=.non)=isNone w:=by
 cases w with
 | m a=>cases (show v=.ref a from r);rfl
 | t n=>cases (show v=.ty n from r);rfl
 | d x =>
  cases x<;>simp only[aQ,aN] at r
  ·subst r;rfl
  ·subst r;rfl
  ·subst r;rfl
  ·subst r;rfl
  all_goals first
   | (obtain⟨a,vs,e,_⟩:=r;subst e;rfl)
   | (obtain⟨a,o,l,e,_⟩:=r;subst e;rfl)
def acv(neg:Bool)(w:W)(w':W)(M:MH)(Q:QD):Prop:=w'=.d .none/\Q (.d (.bool (xor neg (isNone w)))) M
theorem abw:OpD K (λ x y H Q=>y=.non/\Q (.bl (decide (x=.non))) H) (acv false):=by intro x y H w w' M Qd Q r1 r2 m ⟨e,q⟩ k;subst e;simp only[aQ,aN] at r2;refine⟨r2,k _ _ (.d (.bool (isNone w))) M (Kp.refl _) ?_ m (by simpa using q)⟩;rw[qd r1];simp[aQ,aN]
theorem adH:OpD K (λ x y H Q=>y=.non/\Q (.bl (!decide (x=.non))) H) (acv true):=by intro x y H w w' M Qd Q r1 r2 m ⟨e,q⟩ k;subst e;simp only[aQ,aN] at r2;refine⟨r2,k _ _ (.d (.bool (!isNone w))) M (Kp.refl _) ?_ m (by simpa using q)⟩;rw[qd r1];simp[aQ,aN]
end
theorem Inv.afp(I:Inv X pins σ H s)(k:∀ b o,b≠it->b≠e->s.heap.get? b=some o->h'.get? b=some o)(f:yO X pins H it)(g:yO X pins H e):Inv X pins σ H {s with heap:=h',toks:=t'}:=by
 obtain⟨f0,f1,f2,f3,f4,f5⟩:=f;obtain⟨g0,g1,g2,g3,g4,g5⟩:=g;have nit:∀ b u,H b=some u->b≠it:=λ b u q z=>by rw[z,f0] at q;cases q
 have ne:∀ b u,H b=some u->b≠e:=λ b u q z=>by rw[z,g0] at q;cases q
 refine I.step (g':=s.gens) (d':=s.drawn) (ch:=[it,e]) (λ b hb=>?_) (λ b o _ _ hc q _=>k b o (λ z=>hc (by simp[z])) (λ z=>hc (by simp[z])) q) (λ b o _ _ hc q _=>⟨o.slots,k b o (λ z=>hc (by simp[z])) (λ z=>hc (by simp[z])) q⟩) (λ _ _ _ _ n=>n)
  (λ b o hc q=>⟨o,k b o (λ z=>hc (by simp[z])) (λ z=>hc (by simp[z])) q⟩) (λ _ _ q=>q) (λ _ _ _ q=>q) (λ b ps q=>⟨#[],by rw[q];simp⟩) (λ m hm=>?_) (λ b u q=>?_) I.bare
 ·have z:b=it\/b=e:=by simpa using hb
  rcases z with rfl | rfl
  ·exact⟨f3,f1,f4,f5⟩
  ·exact⟨g3,g1,g4,g5⟩
 ·obtain⟨o,es,ep,ho,r⟩:=hm;exact⟨o,es,ep,k _ o (Ne.symm f1) (Ne.symm g1) ho,r⟩
 ·refine(I.hok b u q).vB (λ c v hc z=>k c v ?_ ?_ z) (λ _ z=>z) λ _ _ z=>z
  ·rcases hc with z | z
   ·rw[z];exact nit b u q
   ·exact nit c _ z
  ·rcases hc with z | z
   ·rw[z];exact ne b u q
   ·exact ne c _ z
def Ite(K:FG)(a:Addr):It:=
 ⟨λ i H=>∃ xs x,SqL K H a xs/\xs[i]? =some x,λ i H x H'=>∃ T v,H T=none/\x=.ref T/\H'=upd H T (.tup [.int i,v])/\∀ xs,SqL K H a xs->xs[i]? =some v,λ i H=>∃ xs,SqL K H a xs/\xs.length<=i⟩
theorem abp{P:Program}{w:World}{K:FG}{elts:List Expr}{x1:Nat}{tpos:Pos}(a e it:Addr)(hne:e≠it) :
  Turn P w K (.Tuple elts x1 tpos) (Ite K a) [e,it] e (λ i h=>(∃ old,IsEnum h e it (i:Nat) old)/\h.IsListIter it a i) where
 mem:=by simp
 obj:=λ i h ⟨⟨old,st⟩,⟨oi,ei,ci,di⟩⟩ b hb=>by
  have z:b=e\/b=it:=by simpa using hb
  rcases z with rfl | rfl
  ·exact⟨_,st,λ v z=>by cases z⟩
  ·exact⟨oi,ei,λ v z=>by rw[di] at z;cases z⟩
 keep:=λ i h h' ⟨⟨old,st⟩,li⟩ k=>⟨⟨old,k e (by simp) _ st⟩,li.at λ o q=>k it (by simp) o q⟩
 item:=by
  intro X hP hw hK hc i pins s σ H E I hf ⟨⟨old,st⟩,li⟩ ⟨xs,x,hq,hx⟩;subst hP hw hK;have fe:=hf e (by simp);have fi:=hf it (by simp);obtain⟨its,rv,p,hz⟩:=I.list hq;obtain⟨u,hu,ru⟩:=rv.get hx;refine wpAny_pyNext_enum_item st li p.isList (x:=u) (by simpa using hu) hne λ h' st' li' ht hsz kp=>?_;refine⟨_,rfl,wpAny_letOwnedTupleGo_enum st' λ h'' st'' sb=>?_⟩;obtain⟨t0,t1,t2,t3,t4,t5⟩:=I.zJ (lr0 _) (I.hok.fresh (lr0 _));have nT:s.heap.objs.size≠e:=Nat.ne_of_gt (Heap.lt_size st);have I1:Inv X pins σ H {s with heap:=h'',toks:=s.toks+1}:=Inv.afp I (λ b ob h1 h2 q=>(sb.2 b h2).trans (kp b ob h2 h1 q)) fi fe;have eT:h''.get? s.heap.objs.size=some {cls:=.type "tuple",data:=.seq #[.int (i:Nat) s.toks,u]}:=(sb.2 _ nT).trans ht;have I2:=Inv.aeT (us:=[.int (i:Nat) s.toks,u]) (ys:=[.int i,x]) I1 eT t0 (.cons ⟨_,rfl⟩ (.cons ru .nil)) (by simp;have:=s16;omega) t3 t1 t4 t5;have li'':h''.IsListIter it a (i+1):=li'.at λ o q=>(sb.2 it hne.symm).trans q;have hit:it<s.heap.objs.size:=by obtain⟨oi,ei,_⟩:=li;exact Heap.lt_size ei
  refine⟨.ref s.heap.objs.size,_,I2,rfl,⟨_,x,t0,rfl,rfl,λ ys hy=>by rw[I.rj hy hq];exact hx⟩,⟨⟨_,st''⟩,li''⟩,λ b hb=>?_⟩;have z:b=e\/b=it:=by simpa using hb
  rcases z with rfl | rfl
  ·rw[aB nT.symm];exact fe.1
  ·rw[aB (Nat.ne_of_lt hit)];exact fi.1
 done:=by intro X hP hw hK hc i pins s σ H E I hf ⟨⟨old,st⟩,li⟩ ⟨xs,hq,hx⟩;subst hP hw hK;obtain⟨f0,f1,f2,f3,f4,f5⟩:=hf it (by simp);obtain⟨its,rv,p,hz⟩:=I.list hq;have hl:=rv.length;exact wpAny_pyNext_enum_end (I.ok.hd hc) st li p.isList (by simp;omega) λ h' eb=>⟨rfl,I.turned (t':=s.toks) (λ b o hb q=>eb b o hb q) f0 f1 f3 f4 f5⟩
 self:=λ _ _ _ _ _ ⟨⟨old,st⟩,li⟩ h=>wpAny_pyIter_enum st h
theorem uG:bootBuiltins "enumerate" = some (.type "enumerate"):=by decide +kernel
def ak2(K:FG)(ta:TA):TI:=λ σ H R=>ta σ H λ vs H1=>∃ b xs,vs=[.ref b]/\SqL K H1 b xs/\R (Ite K b) H1
theorem afG{elts:List Expr}{x1:Nat}{tpos:Pos}(hg:Gl X "enumerate")(hm:X.mg "enumerate" = none)(ha:PA X [a] ta)(hs:starEach [a] X.env=[(false,eval a X.env)]:=by rfl) :
  PI X (.Tuple elts x1 tpos) (.Call (.Name "enumerate" p) [a] [] pos) (ak2 X.K ta):=by
 intro pins s σ H R I h;refine Call_ (vh I hg hm uG (PyProof.Rows.callWith_type1 (thn (ha pos pins s σ H _ I h) λ us s1 ⟨vs,H1,I1,r1,q1⟩=>?_) hs rfl));obtain⟨b,xs,e,hq,q⟩:=q1;subst e;cases r1 with
 | cons r rr =>
  cases rr;cases (show _=Value.ref b from r);obtain⟨its,rv,pl,hz⟩:=I1.list hq;refine call_enumerate_list pl.isList λ h' st li hsz kp=>?_;have I2:Inv X pins σ H1 {s1 with heap:=h'}:=I1.kept (t':=s1.toks) kp;refine wpAny_pyIter_enum st ?_;refine⟨_,[_,_],_,_,H1,rfl,I2,abp b _ _ (Nat.succ_ne_self _),⟨⟨_,st⟩,li⟩,λ c hc=>?_,q⟩;have z:c=s1.heap.objs.size+1\/c=s1.heap.objs.size:=by simpa using hc
  rcases z with rfl | rfl
  ·exact I1.zJ (Nat.le_succ _) (I1.hok.fresh (Nat.le_succ _))
  ·exact I1.zJ (lr0 _) (I1.hok.fresh (lr0 _))
def sP(ds:List PyData):List W:=(List.range ds.length).map λ i=>.d (.tuple [.int (i:Nat),ds.getD i .none])
def ajx(t:TAd)(τ:DS)(M:MH)(R:List W->MH->Prop):Prop:=t τ M λ ws M1=>∃ ds,ws=[.d (.list ds)]/\R (sP ds) M1
section
variable {X:Cx}{K:FG}
theorem vE:fZ X (.type "dict") (λ xs H Q=>∃ a kvs,xs=[.ref a]/\Rd H a (.dK kvs)/\∀ p,H p=none->Q (.ref p) (upd H p (.dK kvs))):=by intro pins s σ H xs us Q I r h;obtain⟨a,kvs,rfl,hr,q⟩:=h;obtain⟨u,rfl,rx⟩:=vals1 r;cases rx;exact adT I hr λ p s' hp I'=>⟨.ref p,_,I',rfl,q p hp⟩
def x8(ws:List W)(M:MH)(Q:QD):Prop:=∃ a kvs,ws=[.m a]/\M a=some (.dic kvs)/\∀ p,M p=none->Q (.m p) (bC M p (.dic kvs))
theorem abF:iz K (λ xs H Q=>∃ a kvs,xs=[.ref a]/\Rd H a (.dK kvs)/\∀ p,H p=none->Q (.ref p) (upd H p (.dK kvs))) x8:=by intro vs H ws M Qd Q r m ⟨a,kvs,e,hm,q⟩ k;subst e;obtain⟨v,e1,r1⟩:=gb r;have e2:v=.ref a:=r1;subst e2;obtain⟨l,e,pr⟩:=m _ _ hm;refine⟨a,l,e1,.inl e,λ p hp=>?_⟩;have kp:Kp H (upd H p (.dK l)):=Kp.new hp;exact k _ _ (.m p) _ kp rfl (m.put (mo:=.dic kvs) kp ⟨l,aA,Paired.lV pr λ p q z=>⟨z.1,z.2.keep kp⟩⟩) (q p (m.free hp))
end
end D
namespace Rc
open L2 D
section
variable {α:Type}(nm:α->Str)
variable {nm}
end
mutual
def okD:Nat->PyData->Bool
 | _,.none=>true
 | _,.bool _=>true
 | _,.int i=>decide (i.natAbs<2 ^ 100)
 | _,.str z=>acz z
 | k+1,.list ds=>okA k ds
 | k+1,.tuple ds=>okA k ds
 | _,_=>false
def okA:Nat->List PyData->Bool
 | _,[]=>true
 | k,d::ds=>okD k d&&okA k ds
end
theorem adM(h:acz z=true):Asc z:=afg h
theorem aa8(h:Asc z):PyData.strOk z=true:=by
 unfold PyData.strOk;rw[Array.all_eq_true_iff_forall_mem];intro c hc;exact decide_eq_true (by have:=h c (by simpa using hc);omega)
theorem af2(h:acz z=true):PyData.strOk z=true:=aa8 (adM h)
mutual
theorem aaD:∀ (k:Nat) (d:PyData),okD k d=true->il d=true
 | _,.none,_=>rfl
 | _,.bool _,_=>rfl
 | _,.int i,h=>by
  cases ‹Nat› <;> simp only[okD,decide_eq_true_eq] at h<;>exact decide_eq_true (log2_small h)
 | _,.str z,h=>by
  cases ‹Nat› <;> simp only[okD] at h<;>exact h
 | k+1,.list ds,h=>by simp only[okD] at h;simp only[il];exact sG k ds h
 | k+1,.tuple ds,h=>by simp only[okD] at h;simp only[il];exact sG k ds h
 | 0,.list ds,h=>by simp[okD] at h
 | 0,.tuple ds,h=>by simp[okD] at h
 | k,.dict kvs,h=>by cases k<;>simp[okD] at h
theorem sG:∀ (k:Nat) (ds:List PyData),okA k ds=true->pz ds=true
 | _,[],_=>by simp[pz]
 | k,d::ds,h=>by simp only[okA,ae00] at h;simp only[pz,aaD k d h.1,sG k ds h.2,Bool.and_self]
end
mutual
theorem aao:∀ (k:Nat) (d:PyData),okD k d=true->PyData.canLay0 d=true
 | _,.none,_=>by simp[PyData.canLay0]
 | _,.bool _,_=>by simp[PyData.canLay0]
 | _,.int i,h=>by simp[PyData.canLay0]
 | _,.str z,h=>by
  cases ‹Nat› <;> simp only[okD] at h<;>simp[PyData.canLay0,af2 h]
 | k+1,.list ds,h=>by simp only[okD] at h;simp only[PyData.canLay0];exact wK k ds h
 | k+1,.tuple ds,h=>by simp only[okD] at h;simp only[PyData.canLay0];exact wK k ds h
 | 0,.list ds,h=>by simp[okD] at h
 | 0,.tuple ds,h=>by simp[okD] at h
 | k,.dict kvs,h=>by cases k<;>simp[okD] at h
theorem wK:∀ (k:Nat) (ds:List PyData),okA k ds=true->PyData.canLayAll0 ds=true
 | _,[],_=>by simp[PyData.canLayAll0]
 | k,d::ds,h=>by simp only[okA,ae00] at h;simp only[PyData.canLayAll0,aao k d h.1,wK k ds h.2,Bool.and_self]
end
mutual
theorem sm:∀ (k:Nat) (d:PyData),okD k d=true->PyData.depth d<=k+1
 | _,.none,_=>by simp[PyData.depth]
 | _,.bool _,_=>by simp[PyData.depth]
 | _,.int i,h=>by simp[PyData.depth]
 | _,.str z,h=>by simp[PyData.depth]
 | k+1,.list ds,h=>by simp only[okD] at h;have:=mR k ds h;simp only[PyData.depth];omega
 | k+1,.tuple ds,h=>by simp only[okD] at h;have:=mR k ds h;simp only[PyData.depth];omega
 | 0,.list ds,h=>by simp[okD] at h
 | 0,.tuple ds,h=>by simp[okD] at h
 | k,.dict kvs,h=>by cases k<;>simp[okD] at h
theorem mR:∀ (k:Nat) (ds:List PyData),okA k ds=true->PyData.depthAll ds<=k+1
 | _,[],_=>by simp[PyData.depthAll]
 | k,d::ds,h=>by simp only[okA,ae00] at h;have h1:=sm k d h.1;have h2:=mR k ds h.2;simp only[PyData.depthAll];omega
end
mutual
theorem aaF:∀ (k:Nat) (d:PyData),okD k d=true->PyData.hasDict d=false
 | _,.none,_=>by simp[PyData.hasDict]
 | _,.bool _,_=>by simp[PyData.hasDict]
 | _,.int i,h=>by simp[PyData.hasDict]
 | _,.str z,h=>by simp[PyData.hasDict]
 | k+1,.list ds,h=>by simp only[okD] at h;simp only[PyData.hasDict];exact wI k ds h
 | k+1,.tuple ds,h=>by simp only[okD] at h;simp only[PyData.hasDict];exact wI k ds h
 | 0,.list ds,h=>by simp[okD] at h
 | 0,.tuple ds,h=>by simp[okD] at h
 | k,.dict kvs,h=>by cases k<;>simp[okD] at h
theorem wI:∀ (k:Nat) (ds:List PyData),okA k ds=true->PyData.hasDictAll ds=false
 | _,[],_=>by simp[PyData.hasDictAll]
 | k,d::ds,h=>by simp only[okA,ae00] at h;simp only[PyData.hasDictAll,aaF k d h.1,wI k ds h.2,Bool.or_self]
end
theorem k7(hk:k<=50)(h:okD k d=true):wc d=true:=by have h1:=aao k d h;have h2:=sm k d h;have h3:=aaF k d h;simp only[wc,SeqAt.shaped,h1,h3,Bool.true_and,Bool.not_false,Bool.and_true];exact decide_eq_true (by omega)
theorem mB(hk:k<=50)(h:okD k d=true)(h':okD k d'=true):iy d d'=true:=by have h1:=k7 hk h;have h2:=k7 hk h';cases d<;>cases d'<;>simp[iy,h1,h2]
theorem aaH(h:okD k d=true):PyData.eqv d d=true:=SeqAt.eqv_refl _ (aao k d h)
theorem aap(hk:k<=50)(h:okD k d=true)(hb:big d<=1000000):eI d=true:=
 ag9 (aaD k d h) hb (by have:=sm k d h;omega) (aaF k d h)
theorem kX:∀ {ds:List PyData},(∀ d∈ds,big d<=c)->iA ds<=ds.length * (c+2)
 | [],_=>by simp[iA]
 | d::ds,h=>by have h1:=h d (by simp);have h2:=kX (ds:=ds) λ x hx=>h x (by simp[hx]);simp only[iA,List.length_cons];rw[Nat.add_mul];omega
theorem cT(x y:Str):PyData.eqv (.str x) (.str y)=decide (x=y):=by
 rw[<- wq]
 by_cases e:x=y
 ·subst e;simp
 ·simp[e]
theorem ym(x y:Int):PyData.eqv (.int x) (.int y)=decide (x=y):=by
 rw[PyData.eqv]
 by_cases e:x=y
 ·subst e;simp
 ·simp[e]
theorem aT{M:MH}{a b:Addr}{o:MO}(ha:M a=some o)(hb:M b=none):a≠b:=λ e=>by rw[e,hb] at ha;cases ha
theorem iN{M:MH}{a b:Addr}{o u:MO}(h:M a=some o)(hb:M b=none):bC M b u a=some o:=by rw[ar (aT h hb)];exact h
end Rc
namespace Stc
open L2 D Rc
end Stc
namespace D
open L2
section
variable {K:FG}
def aiQ(di:TId)(g:TGd)(tt:TTd)(te:TD)(k:Nat)(fr:List Nat)(τ:DS)(M:MH)(Q:QD):Prop:=di τ M λ ws M1=>∃ P:Nat->List PyData->DS->MH->Prop,P 0 [] (aej k fr τ) M1 /\
 (∀ i w acc τ M,ws[i]? =some w->P i acc τ M->acc.length<sizeLine/\g w τ M λ τ2 M2=>tt τ2 M2 λ b M3=>if b=true then te τ2 M3 λ y M4=>∃ d,y=.d d/\P (i+1) (acc++[d]) τ2 M4 else P (i+1) acc τ2 M3) /\
 ∀ acc τ M,P ws.length acc τ M->∀ p,M p=none->Q (.m p) (bC M p (.lst (acc.map W.d)))
theorem afN(h:up K (aiQ di g tt te k fr) σ H Q) :
  tLC (upI K di) (upG K g) (upT K tt) (up K te) k fr σ H Q:=by
 obtain⟨τ,M,Qd,A,h,kk⟩:=h;refine⟨τ,M,_,A,h,λ J H1 ws M1 kp m1 it hq79=>?_⟩;obtain⟨P,p0,pt,pe⟩:=hq79;refine⟨λ i n ys σ' H'=>n=ws.length-i/\i<=ws.length/\Kp H1 H'/\∃ acc τ M,bJ K H' acc ys/\Abs K H' σ' τ M/\P i acc τ M,⟨ws.length,by simp,Nat.zero_le _,Kp.refl _,[],_,M1,by simp[bJ],ae4 (A.go kp m1) k fr,p0⟩,?_⟩;rintro i n ys σ2 H2 ⟨rfl,hi,kp2,acc,τ2,M2,ra,A2,p2⟩;obtain⟨go,stop,yld⟩:=it H2 kp2 i
 by_cases hlt:i<ws.length
 ·have hlen:=ra.length;refine .inr ⟨go hlt,?_,λ x H3 y=>?_⟩
  ·obtain⟨w,hw⟩:∃ w,ws[i]? =some w:=⟨ws[i],by simp[hlt]⟩;have:=(pt i w acc τ2 M2 hw p2).1;omega
  obtain⟨kp3,mk,w,ew,rw⟩:=yld x H3 hlt y;refine⟨w,τ2,M2,_,rw,A2.go kp3 (mk _ A2.mem),(pt i w acc τ2 M2 ew p2).2,λ σ4 H4 τ4 M4 kp4 A4 q4=>⟨τ4,M4,_,A4,q4,λ b H5 M5 kp5 m5 q5=>?_⟩⟩;have kq:=(kp3.trans kp4).trans kp5;cases b with
  | false =>
   rw[if_neg ft0] at q5;show(if false=true then _ else _);rw[if_neg ft0];exact⟨ws.length-(i+1),by omega,rfl,hlt,kp2.trans kq,acc,τ4,M5,ra.keep kq,A4.go kp5 m5,q5⟩
  | true =>
   rw[if_pos rfl] at q5;show(if true=true then _ else _);rw[if_pos rfl];refine⟨τ4,M5,_,A4.go kp5 m5,q5,λ v H6 wv M6 kp6 r6 m6 hq80=>?_⟩;obtain⟨d,e6,q6⟩:=hq80;subst e6;refine⟨ws.length-(i+1),by omega,rfl,hlt,kp2.trans (kq.trans kp6),acc++[d],τ4,M6,bJ.append (ra.keep (kq.trans kp6)) ?_,A4.go (kp5.trans kp6) m6,q6⟩;simp only[bJ];exact⟨v,[],rfl,r6,rfl⟩
 ·have hl:i=ws.length:=by omega
  subst hl;refine .inl ⟨stop (lr0 _),λ p hp=>?_⟩;have kp9:Kp H2 (upd H2 p (.lst ys)):=Kp.new hp;exact kgo kk (kp.trans kp2) _ _ (.m p) _ kp9 rfl (A2.mem.put (mo:=.lst (acc.map W.d)) kp9 ⟨_,aA,(ra.keep kp9).ws⟩) (pe acc τ2 M2 p2 p (A2.mem.free hp))
variable {X:Cx}{sc:Scope}{own:List Str}{fr:List Nat}{di:TId}{g:TGd}{tt:TTd}{te:TD}{tg iter elt:Expr}{ifs:List Expr}{pos:Pos}
theorem afK(hc:X.calm=true)(L:yK X sc own fr)(hi:PId X tg iter di)
  (hg:∀ cl C s H ex pl,PGd (blk X sc (lcN X own fr) cl C s H ex pl) tg g)(ht:∀ cl C s H ex pl,acM (blk X sc (lcN X own fr) cl C s H ex pl) ifs tt)(he:∀ cl C s H ex pl,PD (blk X sc (lcN X own fr) cl C s H ex pl) elt te)
  (hs:∀ x,foldedSetIterable iter X.env x=pure x:=by intro _;rfl):PD X (.ListComp elt [⟨tg,iter,ifs,0⟩] sc pos) (aiQ di g tt te own.length fr):=
 ie (ajg hc L hi hg ht he hs) λ σ H Q h=>afN h
end
section
variable {X:Cx}{K:FG}
end
theorem zY(hc:X.calm=true)(L:yK X sc own fr)(hi:Jd (PId X tg iter di))
  (hg:∀ cl C s H ex pl,Jd (PGd (blk X sc (lcN X own fr) cl C s H ex pl) tg g))(ht:∀ cl C s H ex pl,Jd (acM (blk X sc (lcN X own fr) cl C s H ex pl) ifs tt))(he:∀ cl C s H ex pl,Jd (PD (blk X sc (lcN X own fr) cl C s H ex pl) elt te))
  (hs:∀ x,foldedSetIterable iter X.env x=pure x:=by intro _;rfl):Jd (PD X (.ListComp elt [⟨tg,iter,ifs,0⟩] sc pos) (aiQ di g tt te own.length fr)):=
 ⟨D.afK hc L hi.h (λ cl C s H ex pl=>(hg cl C s H ex pl).h) (λ cl C s H ex pl=>(ht cl C s H ex pl).h) (λ cl C s H ex pl=>(he cl C s H ex pl).h) hs⟩
theorem acg(hg:Gl X "enumerate")(hm:X.mg "enumerate" = none)(ha:Jd (PAd X [a] t))(h1:eF a=false:=by rfl):Jd (PId X (.Tuple elts x1 tpos) (.Call (.Name "enumerate" p) [a] [] pos) (ajx t)):=⟨have ha:=ha.h;aj6 (afG hg hm ha (by rw[bV a [] X.env h1];rfl)) λ σ H R hq76=>by
 obtain⟨τ,M,Rd,A,h,k⟩:=hq76;refine⟨τ,M,_,A,h,λ vs H1 ws M1 kp r m hq77=>?_⟩;obtain⟨ds,ew,q⟩:=hq77;subst ew;obtain⟨v,ev,r1⟩:=gb r;simp only[aQ,aN] at r1;obtain⟨b,xs,e1,hs,ra⟩:=r1;subst ev e1;have hl:=ra.length;refine⟨b,xs,rfl,hs.sq,k _ H1 _ M1 kp m (λ H2 kp2 i=>?_) q⟩;have hs2:=(hs.keep kp2).sq;have hlw:(sP ds).length=xs.length:=by simp[sP,hl]
 refine⟨λ hi=>⟨xs,xs[i]'(by omega),hs2,by simp⟩,λ hi=>⟨xs,hs2,by omega⟩,λ x H' hi hq78=>?_⟩;obtain⟨T,v,hT,ex,eH,hv⟩:=hq78;subst ex eH;have hxv:=hv xs hs2;obtain⟨d,e3,rd⟩:=(ra.keep kp2).get' hxv;have kpn:Kp H2 (upd H2 T (.tup [.int i,v])):=Kp.new hT;have hid:i<ds.length:=by rw[hlw] at hi;omega
 refine⟨kpn,λ M m=>m.new hT,.d (.tuple [.int (i:Nat),ds.getD i .none]),by simp[sP,hid],?_⟩;have ed:ds.getD i .none=d:=by simp[List.getD,e3]
 rw[ed];simp only[aQ,aN,bJ];exact⟨T,_,rfl,.inl (.inl aA),_,_,rfl,rfl,_,_,rfl,rd.keep kpn,rfl⟩⟩
section
variable {P:Program}{w:World}{K:FG}{mg:Str->Option Value}{base h:Heap}
end
theorem Inv.aaL{t':Nat}{ch:List Addr}(I:Inv X pins σ H s)(k:∀ b o,b ∉ ch->s.heap.get? b=some o->h'.get? b=some o)(f:∀ b∈ch,yO X pins H b):Inv X pins σ H {s with heap:=h',toks:=t'}:=by
 have nin:∀ b u,H b=some u->b ∉ ch:=λ b u q z=>by rw[(f b z).1] at q;cases q
 refine I.step (g':=s.gens) (d':=s.drawn) (ch:=ch) (λ b hb=>?_) (λ b o _ _ hc q _=>k b o hc q) (λ b o _ _ hc q _=>⟨o.slots,k b o hc q⟩) (λ _ _ _ _ n=>n)
  (λ b o hc q=>⟨o,k b o hc q⟩) (λ _ _ q=>q) (λ _ _ _ q=>q) (λ b ps q=>⟨#[],by rw[q];simp⟩) (λ m hm=>?_) (λ b u q=>?_) I.bare
 ·obtain⟨f0,f1,f2,f3,f4,f5⟩:=f b hb;exact⟨f3,f1,f4,f5⟩
 ·obtain⟨o,es,ep,ho,r⟩:=hm;exact⟨o,es,ep,k _ o (λ z=>(f _ z).2.1 rfl) ho,r⟩
 ·refine(I.hok b u q).vB (λ c v hc z=>k c v ?_ z) (λ _ z=>z) λ _ _ z=>z;rcases hc with z | z
  ·rw[z];exact nin b u q
  ·exact nin c _ z
theorem aiP:bootBuiltins "zip" = some (.type "zip"):=by decide +kernel
def agc(ds es:List PyData):List W:=(List.range (min ds.length es.length)).map λ i=>.d (.tuple [ds.getD i .none,es.getD i .none])
end D
open L2 D
namespace Stc
open L2 D Rc
def Ext(M M':MH):Prop:=∀ q o,M q=some o->M' q=some o
theorem Ext.refl(M:MH):Ext M M:=λ _ _ h=>h
theorem Ext.trans(h:Ext A B)(k:Ext B C):Ext A C:=λ q o e=>k q o (h q o e)
theorem Ext.new(h:M p=none):Ext M (bC M p o):=λ q u e=>iN e h
theorem Ext.del(h:Ext M M')(hp:M p=none):Ext M (zL M' p):=λ q u e=>by have hq:q≠p:=aT e hp;simp only[zL,if_neg hq];exact h q u e
theorem Ext.bag(h:Ext M M')(hb:Bag M p):Bag M' p:=by obtain⟨a,b,c,ns,e,z⟩:=hb;exact⟨a,b,c,ns,h _ _ e,z⟩
theorem oW{α:Type}{gt:TGd}{te:TD}{Q:List PyData->DS->MH->Prop}{τ0:DS}{M:MH}(L:List α)(g:α->W)(f:α->PyData)(S:DS->Prop)(hL:L.length<=1000)(h0:S τ0)
  (step:∀ a∈L,∀ τ,S τ->∀ R:PyData->DS->MH->Prop,(∀ τ2,S τ2->R (f a) τ2 M)->gt (g a) τ M λ τ2 M2=>te τ2 M2 λ y M4=>∃ d,y=.d d/\R d τ2 M4)
  (q:∀ τ,Q (L.map f) τ M) :
  ∃ P:Nat->List PyData->DS->MH->Prop,P 0 [] τ0 M /\
   (∀ i w acc τ M,(L.map g)[i]? =some w->P i acc τ M->acc.length<sizeLine/\gt w τ M λ τ2 M2=>adb τ2 M2 λ b M3=>if b=true then te τ2 M3 λ y M4=>∃ d,y=.d d/\P (i+1) (acc++[d]) τ2 M4 else P (i+1) acc τ2 M3) /\
   ∀ acc τ M,P (L.map g).length acc τ M->Q acc τ M:=by
 refine⟨λ i acc τ M'=>M'=M/\acc=(L.take i).map f/\S τ,⟨rfl,rfl,h0⟩,?_,?_⟩
 ·rintro i w acc τ M' hw ⟨rfl,rfl,hs⟩;rw[List.getElem?_map] at hw;cases e:L[i]? with
  | none=>rw[e] at hw;cases hw
  | some a =>
   rw[e] at hw;cases hw;have hi:=(List.getElem?_eq_some_iff.mp e).1;refine⟨by rw[lm,List.length_take];have:=s16;omega,?_⟩;refine step a (List.mem_of_getElem? e) τ hs (λ d τ2 M4=>M4=M'/\(L.take i).map f++[d]=(L.take (i+1)).map f/\S τ2) λ τ2 h2=>⟨rfl,?_,h2⟩;rw[List.take_succ,e];simp
 ·rintro acc τ M' ⟨rfl,rfl,hs⟩;rw[lm,List.take_length];exact q τ
theorem sealed(hl:M l=none):Ext M (zL (bC M l o) l):=(Ext.new hl).del hl
theorem ah7{α β:Type}{L:List α}{f:α->β}{i:Nat}{w:β}(h:(L.map f)[i]? =some w):∃ a,L[i]? =some a/\w=f a:=by
 rw[List.getElem?_map] at h;cases e:L[i]? with
 | none=>rw[e] at h;cases h
 | some a=>rw[e] at h;cases h;exact⟨a,rfl,rfl⟩
theorem iS{α:Type}{xs:List α}{i:Nat}(hi:i<=xs.length):D.cutD xs none (some (i:Int))=xs.take i:=by
 unfold D.cutD;have e:HT.sIx xs.length 0 none=0:=rfl;have e2:HT.sIx xs.length xs.length (some (i:Int))=i:=by
  unfold HT.sIx;simp;rw[if_neg (by omega)];omega
 rw[e,e2];simp
def oF(c:Nat):Bool:=decide (97<=c)&&decide (c<=122)
def wd(z:Str):Bool:=decide (1<=z.length)&&decide (z.length<=8)&&z.cps.toList.all oF
theorem aeq(h:wd z=true):1<=z.length/\z.length<=8:=by simp[wd] at h;exact h.1
theorem ajm(h:wd z=true):∀ c∈z.cps.toList,oF c=true:=by simp only[wd,ae00,List.all_eq_true] at h;exact h.2
theorem yh(h:wd z=true):acz z=true:=by have:=ajm h;unfold acz;rw[<- Array.all_toList,List.all_eq_true];intro c hc;have:=this c hc;simp[oF] at this;simp;omega
theorem bW{c:Bool}{A B:Prop}(e:c=true)(h:A):if c=true then A else B:=by rw[e];exact si h
theorem a9{c:Bool}{A B:Prop}(e:c=false)(h:B):if c=true then A else B:=by rw[e];exact fh h
theorem lt1(a b:Nat):decide ([a] < [b])=decide (a<b):=by
 by_cases h:a<b
 ·rw[decide_eq_true h];exact decide_eq_true (List.cons_lt_cons_iff.mpr (.inl h))
 ·rw[decide_eq_false h];refine decide_eq_false λ z=>?_;rcases List.cons_lt_cons_iff.mp z with q | ⟨_,q⟩
  ·exact h q
  ·exact absurd q (by simp)
theorem ajE(z:Str):vo (.str z) "str" = true:=by simp[vo,tyD]
theorem akx(ds:List PyData):vo (.list ds) "list" = true:=by simp[vo,tyD]
theorem akJ(ds:List PyData):vo (.tuple ds) "tuple" = true:=by simp[vo,tyD]
theorem ac6{α:Type}{L:List α}{f:α->PyData}{i:Nat}{w:W}(h:(sP (L.map f))[i]? =some w):∃ r,L[i]? =some r/\w=.d (.tuple [.int (i:Nat),f r]):=by
 unfold sP at h;rw[List.getElem?_map] at h;have hi:i<L.length:=by
  by_cases q:i<L.length
  ·exact q
  ·rw[List.getElem?_eq_none (by simpa using q)] at h;cases h
 rw[List.getElem?_range (by simpa using hi)] at h;cases h;refine⟨L[i],List.getElem?_eq_getElem hi,?_⟩;simp[List.getD,List.getElem?_map,List.getElem?_eq_getElem hi]
theorem afF{L:List Str}(h:L.Nodup){i:Nat}{z:Str}(e:L[i]? =some z):z ∉ L.take i:=by intro hm;obtain⟨j,hj,ej⟩:=List.getElem_of_mem hm;rw[List.length_take] at hj;rw[List.getElem_take] at ej;obtain⟨hi,ei⟩:=List.getElem?_eq_some_iff.mp e;have:=(List.getElem_inj (h₀:=by omega) (h₁:=hi) h).mp (ej.trans ei.symm);omega
theorem xN(h:0<=t):D.cutD xs (some t) none=xs.drop t.toNat:=by
 unfold D.cutD;have e:HT.sIx xs.length xs.length none=xs.length:=rfl;have e2:HT.sIx xs.length 0 (some t)=min t.toNat xs.length:=by
  unfold HT.sIx;dsimp only;rw[if_neg (by omega)]
 rw[e,e2]
 by_cases q:t.toNat<=xs.length
 ·rw[Nat.min_eq_left q,<- List.length_drop,List.take_length]
 ·rw[Nat.min_eq_right (by omega),List.drop_of_length_le (lr0 _),List.drop_of_length_le (by omega)];simp
end Stc
namespace HT
open PySem PyProof.Rows
section
open PySem.SeqAt
open PySem.MeetsSeq PySem.MeetsSeq2 PySem.MeetsSeq3
end
end HT
namespace D
open L2
section
variable {X:Cx}{K:FG}
end
end D
namespace Stc
open L2 D Rc
end Stc
namespace D
open L2
end D
open L2 D
namespace L2
section
variable {X:Cx}{pins:PN}{σ:St}{H:Hp}{s:Shared}{sc:Scope}{own:List Str}{fr:List Nat}{cl:List (Str×Addr)}{fp:List Addr}{it D:Addr}{J:It}{tn:Nat->Heap->Prop}{g:TG}{tt:TT}{tk tv:TE}{W:DcW}{Fin:Hp->Prop}
 {kx vx tg iter:Expr}{ifs:List Expr}{pos:Pos}{E:VP}
end
end L2
namespace D
open L2
section
variable {K:FG}
variable {X:Cx}{sc:Scope}{own:List Str}{fr:List Nat}{di:TId}{g:TGd}{tt:TTd}{tk tv:TD}{tg iter kx vx:Expr}{ifs:List Expr}{pos:Pos}
end
end D
open L2 D
namespace L2
end L2
namespace D
open L2
end D
open L2 D
namespace D
open L2
end D
open L2 D
namespace D
open L2
end D
open L2 D
namespace D
open L2
section
variable {X:Cx}{K:FG}
end
end D
namespace PySem
namespace Dp
section
variable {prog:Program}{w:World}{A:Around}{E:VP}{s:Shared}
variable {K:Type}[DecidableEq K]{knd:KeyKind prog w K}
end
end Dp
end PySem
namespace D
open L2
section
variable {X:Cx}{K:FG}
end
end D
namespace Stc
open L2 D Rc
end Stc
namespace D
open L2
section
variable {X:Cx}{K:FG}
def ajr(n:Nat)(t:TAd)(gs:aib)(D:Ed)(τ:DS)(M:MH):Prop:=t τ M λ ws M1=>ws.length=n/\n<=sizeLine/\gs ws τ M1 D.nx
theorem xP(r:bu K H ws vs):∀ n:Nat,bu K H (List.replicate n ws).flatten (List.replicate n vs).flatten
 | 0=>.nil
 | n+1=>by rw[List.replicate_succ,List.replicate_succ,List.flatten_cons,List.flatten_cons];exact r.append (xP r n)
end
theorem aas(hc:X.calm=true)(ha:Jd (PAd X es t))(hg:Jd (aeZ X ts gs))(hn:(assignEach ts X.env).length=n:=by rfl)(hst:(assignEach ts X.env).findIdx? (·.1)=none:=by rfl)
  (hs:swapsWithSole [.Tuple ts k p1] (.Tuple es k2 p2) pos.line X.env=pure false:=by rfl)(hw:swappedStores [.Tuple ts k p1] (.Tuple es k2 p2) X.env=pure none:=by rfl)
  (h1:(assignEach [.Tuple ts k p1] X.env).map (·.2)=[assign (.Tuple ts k p1) X.env]:=by rfl):Jd (PSd X (.Assign [.Tuple ts k p1] (.Tuple es k2 p2) pos) (ajr n t gs)):=⟨have ha:=ha.h;have hg:=hg.h;
 wB (ae1 (aex ha) (aeI hc hg hn hst) hs hw h1) λ D σ H h=>by obtain⟨τ,M,Dd,A,h,k1,_⟩:=h;refine⟨τ,M,_,A,h,λ vs H1 ws M1 kp1 r1 m1 hq81=>?_⟩;obtain⟨el,hz,q⟩:=hq81;have hl:=r1.length;refine⟨by omega,λ p hp=>?_⟩;have kp2:Kp H1 (upd H1 p (.tup vs)):=Kp.new hp;refine⟨p,vs,rfl,.inl (.inl aA),by omega,ws,τ,M1,_,bu.keep kp2 r1,A.go (kp1.trans kp2) (m1.new hp),q,λ σ' H' τ' M' kp' A' q'=>?_⟩;exact k1 σ' H' τ' M' ((kp1.trans kp2).trans kp') A' q'⟩
end D
namespace S
open PySem PySem.W PyProof.Rows
def PR(N:Nat)(p:Array Nat):Prop:=p.Perm (List.toArray (List.range N))
theorem PR.low(hN:1<=N)(h:PR N p):Low N p:=.of hN λ x hx=>by
 have:=(Array.perm_iff_toList_perm.mp h).mem_iff.mp hx
 simpa using this
theorem PR.rev(h:PR N p):PR N (kas_rev p i j):=(mirror_perm _ _ _ _:(kas_rev p i j).Perm p).trans h
theorem aaV(lt:Nat->Nat->Bool):∀ {t:KasT α},mF N R t->R (go lt t)
 | .ret _,h=>h
 | .ask i j k,h=>aaV lt (t:=k (lt i j)) (h.2.2 (lt i j))
theorem su(hN:1<=N):∀ (f:Nat) {p:Array Nat} (n q:Nat),PR N p->mF N (λ r=>PR N r.1) (kas_desc f p n q)
 | 0,p,n,q,h=>h
 | f+1,p,n,q,h=>⟨h.low hN _,h.low hN _,λ b=>by
  cases b with
  | true =>
   simp only[if_true]
   split
   ·exact su hN f (n+1) 0 h.rev
   ·exact su hN f (n+1) 0 h
  | false =>
   simp only[Bool.false_eq_true,if_false];refine⟨h.low hN _,h.low hN _,λ b=>?_⟩;cases b with
   | true=>exact h
   | false=>exact su hN f (n+1) (q+1) h⟩
theorem xV(hN:1<=N)(h:PR N p):mF N (λ(r:Nat×Array Nat)=>PR N r.2) (kas_tail3 n m p):=by
 unfold kas_tail3;refine mF.bind (λ k _=>?_) (kP (h.rev.low hN) _ _);exact(h.rev:PR N (kas_rev p 0 n))
theorem oy(hN:1<=N)(h:PR N p):mF N (λ r=>PR N r.2) (kas_descPart n m p):=(su hN _ _ _ h).bind λ r hr=>by
 split
 ·exact xV hN hr.rev
 ·exact xV hN hr
theorem adR(hN:1<=N)(h:PR N p):mF N (λ r=>PR N r.2) (kas_count m p):=(kP (h.low hN) _ _).bind λ n _=>by
 split
 ·exact h
 ·split
  ·refine⟨h.low hN _,h.low hN _,λ b=>?_⟩;cases b with
   | true=>exact h
   | false=>exact oy hN h.rev
  ·exact oy hN h
theorem aeC(hN:1<=N):∀ (f:Nat) {p:Array Nat} (k:Nat),PR N p->mF N (PR N) (kas_bin f p k)
 | 0,_,_,h=>h
 | f+1,p,k,h=>(iY (h.low hN) _ _ _).bind λ l _=>aeC hN f (k+1) ((bubble_perm _ _ _:(bubble p k (k-l)).Perm p).trans h)
theorem agj(hN:1<=N):mF N (PR N) (kas_sort N):=(adR hN (Array.Perm.refl _)).bind λ r hr=>by
 split
 ·exact aeC hN _ _ hr
 ·exact hr
theorem acP(lt:Nat->Nat->Bool)(n:Nat):(mU lt n).Perm (List.range n):=by
 unfold mU
 by_cases z:n<2
 ·rw[if_pos z]
 ·rw[if_neg z];have:=Array.perm_iff_toList_perm.mp (show PR n (go lt (kas_sort n)) from aaV lt (agj (N:=n) (by omega)))
  simpa using this
end S
namespace D
open L2 S
section
variable {X:Cx}{K:FG}
end
mutual
def kS(K:FG)(H:Hp):PyData->V->Prop
 | .list ds,x=>aN K H (.list ds) x\/∃ a vs,x=.ref a/\H a=some (.lst vs)/\js K H ds vs
 | .tuple ds,x=>∃ a vs,x=.ref a/\SqT K H a vs/\js K H ds vs
 | .none,x=>aN K H .none x
 | .bool b,x=>aN K H (.bool b) x
 | .int i,x=>aN K H (.int i) x
 | .str z,x=>aN K H (.str z) x
 | .dict kvs,x=>aN K H (.dict kvs) x
def js(K:FG)(H:Hp):List PyData->List V->Prop
 | [],l=>l=[]
 | d::ds,l=>∃ v r,l=v::r/\kS K H d v/\js K H ds r
end
mutual
theorem kS.of{K:FG}{H:Hp}:∀ {d:PyData} {x:V},aN K H d x->kS K H d x
 | .list ds,x,h=>by unfold kS;exact .inl h
 | .tuple ds,x,h=>by
  unfold kS;simp only[aN] at h;obtain⟨a,vs,e,s,r⟩:=h;exact⟨a,vs,e,s,js.of r⟩
 | .none,x,h=>by unfold kS;exact h
 | .bool b,x,h=>by unfold kS;exact h
 | .int i,x,h=>by unfold kS;exact h
 | .str z,x,h=>by unfold kS;exact h
 | .dict kvs,x,h=>by unfold kS;exact h
theorem js.of{K:FG}{H:Hp}:∀ {ds:List PyData} {xs:List V},bJ K H ds xs->js K H ds xs
 | [],xs,h=>by unfold js;simpa [bJ] using h
 | d::ds,xs,h=>by
  unfold js;simp only[bJ] at h;obtain⟨v,r,e,h1,h2⟩:=h;exact⟨v,r,e,kS.of h1,js.of h2⟩
end
def Tw(H H':Hp):Prop:=Kp H H'/\∀ b vs,H b=some (.lst vs)->H' b=some (.lst vs)\/∃ o,H' b=some (.frz o (.lst vs))
theorem Tw.refl(H:Hp):Tw H H:=⟨Kp.refl H,λ _ _ e=>.inl e⟩
theorem Tw.trans{A B C:Hp}(h:Tw A B)(k:Tw B C):Tw A C:=⟨h.1.trans k.1,λ b vs e=>by
 rcases h.2 b vs e with q | ⟨o,q⟩
 ·exact k.2 b vs q
 ·exact .inr ⟨o,k.1.frz b o _ q⟩⟩
mutual
theorem ai6:∀ {d:PyData} {x:V} {H0 H:Hp},Tw H0 H->Inv X pins σ H s->kS X.K H0 d x->∃ H',Tw H H'/\Inv X pins σ H' s/\aN X.K H' d x
 | .list ds,x,H0,H,t,I,h=>by
  unfold kS at h;rcases h with h | ⟨a,vs,rfl,e,r⟩
  ·exact⟨H,Tw.refl H,I,h.keep t.1⟩
  ·obtain⟨H1,t1,I1,r1⟩:=aam t I r;rcases(t.trans t1).2 a vs e with q | ⟨o,q⟩
   ·obtain⟨o,I2⟩:=I1.freeze q trivial;have kp:Kp H1 (upd H1 a (.frz o (.lst vs))):=Kp.set q (λ _ z=>nomatch z) (λ _ _ z=>nomatch z);refine⟨_,t1.trans ⟨kp,λ b ws eb=>?_⟩,I2,?_⟩
    ·by_cases hb:b=a
     ·subst hb;rw[q] at eb;cases eb;exact .inr ⟨o,aA⟩
     ·exact .inl (by rw[aB hb];exact eb)
    ·simp only[aN];exact⟨a,vs,rfl,.inl ⟨o,aA⟩,r1.keep kp⟩
   ·refine⟨H1,t1,I1,?_⟩;simp only[aN];exact⟨a,vs,rfl,.inl ⟨o,q⟩,r1⟩
 | .tuple ds,x,H0,H,t,I,h=>by
  unfold kS at h;obtain⟨a,vs,rfl,e,r⟩:=h;obtain⟨H1,t1,I1,r1⟩:=aam t I r;refine⟨H1,t1,I1,?_⟩;simp only[aN];exact⟨a,vs,rfl,SqT.keep (t.trans t1).1 e,r1⟩
 | .none,x,H0,H,t,I,h=>by unfold kS at h;exact⟨H,Tw.refl H,I,h.keep t.1⟩
 | .bool b,x,H0,H,t,I,h=>by unfold kS at h;exact⟨H,Tw.refl H,I,h.keep t.1⟩
 | .int i,x,H0,H,t,I,h=>by unfold kS at h;exact⟨H,Tw.refl H,I,h.keep t.1⟩
 | .str z,x,H0,H,t,I,h=>by unfold kS at h;exact⟨H,Tw.refl H,I,h.keep t.1⟩
 | .dict kvs,x,H0,H,t,I,h=>by unfold kS at h;exact⟨H,Tw.refl H,I,h.keep t.1⟩
theorem aam:∀ {ds:List PyData} {xs:List V} {H0 H:Hp},Tw H0 H->Inv X pins σ H s->js X.K H0 ds xs->∃ H',Tw H H'/\Inv X pins σ H' s/\bJ X.K H' ds xs
 | [],xs,H0,H,t,I,h=>by unfold js at h;exact⟨H,Tw.refl H,I,by simpa [bJ] using h⟩
 | d::ds,xs,H0,H,t,I,h=>by
  unfold js at h;obtain⟨v,r,rfl,h1,h2⟩:=h;obtain⟨H1,t1,I1,r1⟩:=ai6 t I h1;obtain⟨H2,t2,I2,r2⟩:=aam (t.trans t1) I1 h2;refine⟨H2,t1.trans t2,I2,?_⟩;simp only[bJ];exact⟨v,r,rfl,r1.keep t2.1,r2⟩
end
end D
namespace D
open L2
theorem wV(I:Inv X pins σ H s)(h:kS X.K H d x)(r:RelV x u)(ok:eI d=true):∃ as,Reads s.heap u d as/\(d.hasDict=true->sysModules ∉ as):=by obtain⟨H',_,I',h'⟩:=ai6 (Tw.refl H) I h;exact qf I' h' r ok
theorem zu(hr:eO k X.A):fZ X (.builtin "repr") (λ xs H Q=>∃ x d,xs=[x]/\kS X.K H d x/\eI d=true/\Q (.str d.shown) H):=by
 intro pins s σ H xs us Q I r h;obtain⟨x,d,rfl,rd,ok,q⟩:=h;obtain⟨u,rfl,rx⟩:=vals1 r;obtain⟨as,rr,hsm⟩:=wV I rd rx ok;have ok':=ok;simp only[eI,ae00,decide_eq_true_eq] at ok';obtain⟨⟨⟨hs,hz⟩,hd⟩,_⟩:=ok';have hu:=hr.units;cases rr with
 | none=>exact PySem.P.repr_of_none ⟨.str _,H,I.tok _,⟨_,rfl⟩,by simpa [PyData.shown] using q⟩
 | bool b=>exact PySem.P.repr_of_bool ⟨.str _,H,I.tok _,⟨_,rfl⟩,by simpa [PyData.shown] using q⟩
 | int i t =>
  refine PySem.P.repr_of_int (by simpa [PyData.showable] using hs) ⟨.str _,H,I.tok _,⟨_,rfl⟩,?_⟩;rw[PyData.shown] at q;exact q
 | str i t =>
  refine PySem.P.repr_of_str ⟨.str _,H,I.tok _,⟨_,rfl⟩,?_⟩ (by simpa [PyData.shown] using hz);rw[PyData.shown] at q;exact q
 | list e1 e2 e3 e4=>exact repr_of_reads' (.list e1 e2 e3 e4) hs hsm hr.gd (by omega) (λ _ _ z=>z) (λ h' u tk hk=>⟨.str _,H,I.kept hk,⟨_,rfl⟩,q⟩) hz
 | tuple e1 e2 e3 e4=>exact repr_of_reads' (.tuple e1 e2 e3 e4) hs hsm hr.gd (by omega) (λ _ _ z=>z) (λ h' u tk hk=>⟨.str _,H,I.kept hk,⟨_,rfl⟩,q⟩) hz
 | dict e1 e2 e3 e4 e5=>exact repr_of_reads' (.dict e1 e2 e3 e4 e5) hs hsm hr.gd (by omega) (λ _ _ z=>z) (λ h' u tk hk=>⟨.str _,H,I.kept hk,⟨_,rfl⟩,q⟩) hz
def pM(M:MH):Nat->W->PyData->Prop
 | 0,w,d=>w=.d d
 | n+1,w,d=>w=.d d\/(∃ a ws ds,w=.m a/\M a=some (.lst ws)/\d=.list ds/\Paired (pM M n) ws ds)\/∃ a ws ds,w=.m a/\M a=some (.tup ws)/\d=.tuple ds/\Paired (pM M n) ws ds
theorem pM.d:∀ {n:Nat},pM M n (.d x) x
 | 0=>rfl
 | _+1=>.inl rfl
theorem pM.l(h:M a=some (.lst ws))(r:Paired (pM M n) ws ds):pM M (n+1) (.m a) (.list ds):=.inr (.inl ⟨a,ws,ds,rfl,h,rfl,r⟩)
theorem pM.ds:∀ (ds:List PyData),Paired (pM M n) (ds.map W.d) ds
 | []=>.nil
 | _::ds=>.cons pM.d (pM.ds ds)
theorem qS{K:FG}{H:Hp}{M:MH}{n:Nat}(h:∀ w d x,pM M n w d->aQ K H w x->kS K H d x):∀ {ws:List W} {ds:List PyData} {vs:List V},Paired (pM M n) ws ds->bu K H ws vs->js K H ds vs
 | _,_,_,.nil,.nil=>by unfold js;rfl
 | _,_,_,.cons a b,.cons c e=>by
  unfold js;exact⟨_,_,rfl,h _ _ _ a c,qS h b e⟩
theorem pM.sound{K:FG}{H:Hp}{M:MH}(m:cX K H M):∀ (n:Nat) (w:W) (d:PyData) (x:V),pM M n w d->aQ K H w x->kS K H d x
 | 0,w,d,x,g,r=>by have g':w=.d d:=g;subst g';exact kS.of r
 | n+1,w,d,x,g,r=>by
  rcases g with g | ⟨a,ws,ds,rfl,h,rfl,p⟩ | ⟨a,ws,ds,rfl,h,rfl,p⟩
  ·subst g;exact kS.of r
  ·obtain⟨vs,e,rw⟩:=m _ _ h;unfold kS;exact .inr ⟨a,vs,r,e,qS (pM.sound m n) p rw⟩
  ·obtain⟨vs,e,rw⟩:=m _ _ h;unfold kS;exact⟨a,vs,r,.inl (.inl e),qS (pM.sound m n) p rw⟩
section
variable {X:Cx}{K:FG}
def ack(ws:List W)(M:MH)(Q:QD):Prop:=∃ w d n,ws=[w]/\pM M n w d/\eI d=true/\Q (.d (.str d.shown)) M
theorem adg:iz K (λ xs H Q=>∃ x d,xs=[x]/\kS K H d x/\eI d=true/\Q (.str d.shown) H) ack:=by intro vs H ws M Qd Q r m ⟨w,d,n,e,g,ok,q⟩ k;subst e;obtain⟨v,e1,r1⟩:=gb r;exact⟨v,d,e1,pM.sound m n w d v g r1,ok,k _ H (.d (.str _)) M (Kp.refl H) (by simp[aQ,aN]) m q⟩
end
theorem sy(I:Inv X pins σ H s)(h:H a=some (.lst l)):(∀ xs,X.H₀ a≠some (.tup xs))/\(∀ o v,X.H₀ a≠some (.frz o v))/\∀ ps,X.H₀ a≠some (.tbl ps):=by
 refine⟨λ xs e=>?_,λ o v e=>?_,λ ps e=>?_⟩
 ·have:=I.base.tups a xs e;rw[h] at this;cases this
 ·have:=I.base.frzs a o v e;rw[h] at this;cases this
 ·obtain⟨m,this⟩:=I.base.tbls a ps e;rw[h] at this;cases this
theorem Inv.ae5(I:Inv X pins σ H s)(h:H a=some (.lst l)):∃ o,Inv X pins σ (upd H a (.frz o (.frz o (.lst l)))) s:=by have f:Fz (.lst l):=trivial;obtain⟨o,ho⟩:=(I.hok a _ h).obj f;obtain⟨b1,b2,b3⟩:=sy I h;exact⟨o,Inv.swap I h (λ _ z=>nomatch z) (λ _ z=>nomatch z) b1 b2 b3 ⟨ho,ho,(I.hok a _ h).aj4 f⟩⟩
theorem Inv.sZ(I0:Inv X pins σ0 H0 s0)(h0:H0 a=some (.lst l))(I:Inv X pins σ H s)(h:H a=some (.frz o (.frz o (.lst l)))):Inv X pins σ (upd H a (.lst l)) s:=by have f:Fz (.lst l):=trivial;obtain⟨b1,b2,b3⟩:=sy I0 h0;exact Inv.swap I h (λ _ z=>nomatch z) (λ _ z=>nomatch z) b1 b2 b3 ((I.hok a _ h).2.2.aj4 f)
def agp(t:TE):TE:=λ σ H Q=>∃ a l,H a=some (.lst l)/\∀ o,t σ (upd H a (.frz o (.frz o (.lst l)))) λ v H'=>H' a=some (.frz o (.frz o (.lst l)))/\Q v (upd H' a (.lst l))
theorem aaA(h:PE X e t):PE X e (agp t):=by intro pins s σ H Q I ⟨a,l,ha,q⟩;obtain⟨o,I1⟩:=Inv.ae5 I ha;exact thn (h pins s σ _ _ I1 (q o)) λ v s1 ⟨x,H',I2,r,e,q2⟩=>⟨x,_,Inv.sZ I ha I2 e,r,q2⟩
def ahe(t:TS):TS:=λ D σ H=>∃ a l,H a=some (.lst l)/\∀ o,t
 {nx:=λ σ' H'=>H' a=some (.frz o (.frz o (.lst l)))/\D.nx σ' (upd H' a (.lst l)),rt:=λ v H'=>H' a=some (.frz o (.frz o (.lst l)))/\D.rt v (upd H' a (.lst l)),
  bk:=λ σ' H'=>H' a=some (.frz o (.frz o (.lst l)))/\D.bk σ' (upd H' a (.lst l)),ct:=λ σ' H'=>H' a=some (.frz o (.frz o (.lst l)))/\D.ct σ' (upd H' a (.lst l))} σ (upd H a (.frz o (.frz o (.lst l))))
theorem aa5{st:Stmt}{t:TS}(h:PS X st t):PS X st (ahe t):=by
 intro pins s σ H D I ⟨a,l,ha,q⟩;obtain⟨o,I1⟩:=Inv.ae5 I ha;refine thn (h pins s σ _ _ I1 (q o)) λ f s1 hf=>?_;cases f with
 | next=>obtain⟨σ',H',I2,e,q2⟩:=hf;exact⟨σ',_,Inv.sZ I ha I2 e,q2⟩
 | brk=>obtain⟨σ',H',I2,e,q2⟩:=hf;exact⟨σ',_,Inv.sZ I ha I2 e,q2⟩
 | cont=>obtain⟨σ',H',I2,e,q2⟩:=hf;exact⟨σ',_,Inv.sZ I ha I2 e,q2⟩
 | ret u=>obtain⟨v,σ',H',I2,r,e,q2⟩:=hf;exact⟨v,σ',_,Inv.sZ I ha I2 e,r,q2⟩
section
variable {K:FG}{H:Hp}{a:Addr}{o:Obj}{l:List V}
theorem Kp.cM(h:H a=some (.frz o (.frz o (.lst l)))):(∀ b xs,H b=some (.tup xs)->upd H a (.lst l) b=some (.tup xs))/\(∀ b ob ys,H b=some (.frz ob (.lst ys))->upd H a (.lst l) b=some (.frz ob (.lst ys)))/\∀ b ob ys,H b=some (.frz ob (.dK ys))->upd H a (.lst l) b=some (.frz ob (.dK ys)):=by
 refine⟨λ b xs e=>?_,λ b ob ys e=>?_,λ b ob ys e=>?_⟩<;>
 ·rw[aB (λ z=>by rw[z,h] at e;cases e)];exact e
theorem SqT.cM(h:H a=some (.frz o (.frz o (.lst l))))(r:SqT K H b vs):SqT K (upd H a (.lst l)) b vs:=by
 rcases r with (r | ⟨ob,r⟩) | r
 ·exact .inl (.inl ((Kp.cM h).1 _ _ r))
 ·refine .inl (.inr ⟨ob,?_⟩);rw[aB (λ z=>by rw[z,h] at r;cases r)];exact r
 ·exact .inr r
theorem SqF.cM(h:H a=some (.frz o (.frz o (.lst l))))(r:SqF K H b vs):SqF K (upd H a (.lst l)) b vs:=by
 rcases r with ⟨ob,r⟩ | r
 ·exact .inl ⟨ob,(Kp.cM h).2.1 _ _ _ r⟩
 ·exact .inr r
mutual
theorem aN.cM(h:H a=some (.frz o (.frz o (.lst l)))):∀ {d:PyData} {v:V},aN K H d v->aN K (upd H a (.lst l)) d v
 | .none,v,r=>by simp only[aN] at r ⊢;exact r
 | .bool b,v,r=>by simp only[aN] at r ⊢;exact r
 | .int i,v,r=>by simp only[aN] at r ⊢;exact r
 | .str x,v,r=>by simp only[aN] at r ⊢;exact r
 | .list ds,v,r=>by simp only[aN] at r ⊢;obtain⟨b,vs,e,q,r⟩:=r;exact⟨b,vs,e,SqF.cM h q,bJ.cM h r⟩
 | .tuple ds,v,r=>by simp only[aN] at r ⊢;obtain⟨b,vs,e,q,r⟩:=r;exact⟨b,vs,e,SqT.cM h q,bJ.cM h r⟩
 | .dict kvs,v,r=>by simp only[aN] at r ⊢;obtain⟨b,ob,m,e,q,r⟩:=r;exact⟨b,ob,m,e,(Kp.cM h).2.2 _ _ _ q,l4.cM h r⟩
theorem bJ.cM(h:H a=some (.frz o (.frz o (.lst l)))):∀ {ds:List PyData} {vs:List V},bJ K H ds vs->bJ K (upd H a (.lst l)) ds vs
 | [],vs,r=>by simp only[bJ] at r ⊢;exact r
 | d::ds,vs,r=>by simp only[bJ] at r ⊢;obtain⟨v,q,e,h1,h2⟩:=r;exact⟨v,q,e,aN.cM h h1,bJ.cM h h2⟩
theorem l4.cM(h:H a=some (.frz o (.frz o (.lst l)))):∀ {ds:List (PyData×PyData)} {m:List (Key×V)},l4 K H ds m->l4 K (upd H a (.lst l)) ds m
 | [],m,r=>by simp only[l4] at r ⊢;exact r
 | (key,d)::ds,m,r=>by simp only[l4] at r ⊢;obtain⟨k',v,q,e,ek,h1,h2⟩:=r;exact⟨k',v,q,e,ek,aN.cM h h1,l4.cM h h2⟩
end
theorem aQ.cM(h:H a=some (.frz o (.frz o (.lst l)))):∀ {w:W} {v:V},aQ K H w v->aQ K (upd H a (.lst l)) w v
 | .d _,_,r=>aN.cM h r
 | .m _,_,r=>r
 | .t _,_,r=>r
theorem cX.cM(h:H a=some (.frz o (.frz o (.lst l))))(m:cX K H M)(e:M a=some (.flst ws0)):cX K (upd H a (.lst l)) (bC M a (.lst ws0)):=λ b mo q=>by
 by_cases hb:b=a
 ·subst hb;rw[ao] at q;cases q;obtain⟨o',l',e',pr⟩:=m _ _ e;rw[h] at e';cases e';exact⟨l,aA,Paired.lV pr λ _ _ z=>aQ.cM h z⟩
 ·rw[ar hb] at q;have r:=m b mo q;cases mo with
  | lst ws=>obtain⟨vs,e,r⟩:=r;exact⟨vs,by rw[aB hb];exact e,Paired.lV r λ _ _ z=>aQ.cM h z⟩
  | dic kvs=>obtain⟨l,e,r⟩:=r;exact⟨l,by rw[aB hb];exact e,Paired.lV r λ p q z=>⟨z.1,aQ.cM h z.2⟩⟩
  | dct kvs=>obtain⟨l,e,r⟩:=r;exact⟨l,by rw[aB hb];exact e,Paired.lV r λ p q z=>⟨z.1,aQ.cM h z.2⟩⟩
  | fdic kvs=>obtain⟨o,l,e,r⟩:=r;exact⟨o,l,by rw[aB hb];exact e,Paired.lV r λ p q z=>⟨z.1,aQ.cM h z.2⟩⟩
  | ins C fs=>obtain⟨dx,l,e,r⟩:=r;exact⟨dx,l,by rw[aB hb];exact e,Paired.lV r λ p q z=>⟨z.1,aQ.cM h z.2⟩⟩
  | tup ws=>obtain⟨vs,e,r⟩:=r;exact⟨vs,by rw[aB hb];exact e,Paired.lV r λ _ _ z=>aQ.cM h z⟩
  | flst ws=>obtain⟨o,vs,e,r⟩:=r;exact⟨o,vs,by rw[aB hb];exact e,Paired.lV r λ _ _ z=>aQ.cM h z⟩
  | exc C fs =>
   obtain⟨φ,dct,e,p,r⟩:=r;refine⟨φ,dct,by rw[aB hb];exact e,p,?_⟩;rcases r with r | ⟨dx,o',l',e1,e2,r⟩
   ·exact .inl r
   ·exact .inr ⟨dx,o',l',e1,by rw[aB (λ z=>by rw[z,h] at e2;cases e2)];exact e2,Paired.lV r λ p q z=>⟨z.1,aQ.cM h z.2⟩⟩
  | code q pos =>
   obtain⟨ps,e,ht,hc⟩:=r;refine⟨ps,by rw[aB hb];exact e,ht,?_⟩;rcases hc with hc | ⟨c,o',vs,t,e1,e2,e3⟩
   ·exact .inl hc
   ·exact .inr ⟨c,o',vs,t,e1,by rw[aB (λ z=>by rw[z,h] at e2;cases e2)];exact e2,e3⟩
theorem Abs.cM(h:H a=some (.frz o (.frz o (.lst l))))(A:Abs K H σ τ M)(e:M a=some (.flst ws0)):Abs K (upd H a (.lst l)) σ τ (bC M a (.lst ws0)):=
 ⟨A.len,λ i w q=>let ⟨v,q1,r⟩:=A.val i w q; ⟨v,q1,aQ.cM h r⟩,cX.cM h A.mem e⟩
end
def wJ(t:TD)(τ:DS)(M:MH)(Q:QD):Prop:=∃ a ws,M a=some (.lst ws)/\t τ (bC M a (.flst ws)) λ v M'=>M' a=some (.flst ws)/\Q v (bC M' a (.lst ws))
theorem j9(e:H a=some (.lst l))(kp':Kp (upd H a (.frz o (.frz o (.lst l)))) H'):Kp H (upd H' a (.lst l)):=⟨λ b xs z=>by
  have hb:b≠a:=λ y=>by rw[y,e] at z;cases z
  rw[aB hb];exact kp'.tup b xs (by rw[aB hb];exact z),λ b ob u z=>by
  have hb:b≠a:=λ y=>by rw[y,e] at z;cases z
  rw[aB hb];exact kp'.frz b ob u (by rw[aB hb];exact z)⟩
def ac8(t:TSd)(D:Ed)(τ:DS)(M:MH):Prop:=∃ a ws,M a=some (.lst ws)/\t
 {nx:=λ τ' M'=>M' a=some (.flst ws)/\D.nx τ' (bC M' a (.lst ws)),rt:=λ w M'=>M' a=some (.flst ws)/\D.rt w (bC M' a (.lst ws)),
  bk:=λ τ' M'=>M' a=some (.flst ws)/\D.bk τ' (bC M' a (.lst ws)),ct:=λ τ' M'=>M' a=some (.flst ws)/\D.ct τ' (bC M' a (.lst ws))} τ (bC M a (.flst ws))
theorem vN{st:Stmt}{t:TSd}(h:PSd X st t):PSd X st (ac8 t):=wB (aa5 h) λ D σ H hq84=>by
 obtain⟨τ,M,Dd,A,⟨a,ws,hm,q⟩,k1,k2,k3,k4⟩:=hq84;obtain⟨l,e,pr⟩:=A.mem _ _ hm;refine⟨a,l,e,λ o=>?_⟩;have kp:Kp H (upd H a (.frz o (.frz o (.lst l)))):=Kp.set e (λ _ z=>nomatch z) (λ _ _ z=>nomatch z);have m1:cX X.K (upd H a (.frz o (.frz o (.lst l)))) (bC M a (.flst ws)):=A.mem.put (mo:=.flst ws) kp ⟨o,l,aA,bu.keep kp pr⟩;refine⟨τ,_,_,A.go kp m1,q,?_,?_,?_,?_⟩
 ·rintro σ' H' τ' M' kp' A' ⟨h1,q1⟩;have e':=kp'.frz a o _ aA;exact⟨e',k1 _ _ _ _ (j9 e kp') (Abs.cM e' A' h1) q1⟩
 ·rintro v H' w M' kp' r' m' ⟨h1,q1⟩;have e':=kp'.frz a o _ aA;exact⟨e',k2 _ _ _ _ (j9 e kp') (aQ.cM e' r') (cX.cM e' m' h1) q1⟩
 ·rintro σ' H' τ' M' kp' A' ⟨h1,q1⟩;have e':=kp'.frz a o _ aA;exact⟨e',k3 _ _ _ _ (j9 e kp') (Abs.cM e' A' h1) q1⟩
 ·rintro σ' H' τ' M' kp' A' ⟨h1,q1⟩;have e':=kp'.frz a o _ aA;exact⟨e',k4 _ _ _ _ (j9 e kp') (Abs.cM e' A' h1) q1⟩
abbrev yc(o:Obj)(l:List V):HO:=.frz o (.frz o (.lst l))
theorem nQ(ok:HOk P w H h)(e:H a=some (yc o l)):∃ its:List Value,Vals l its/\h.IsList a its.toArray:=by obtain⟨ho,_,z,its,n,r,h1⟩:=ok a _ e;exact⟨its,r,⟨_,h1,rfl,n,rfl⟩⟩
def Itf(a:Addr)(o:Obj)(l:List V):It:=
 ⟨λ i H=>H a=some (yc o l)/\i<l.length,λ i H x H'=>H'=H/\l[i]? =some x,λ i H=>H a=some (yc o l)/\l.length<=i⟩
theorem zp{P:Program}{w:World}{K:FG}{tg:Expr}(a it:Addr)(o:Obj)(l:List V):Turn P w K tg (Itf a o l) [it] it (λ i h=>h.IsListIter it a i) where
 mem:=by simp
 obj:=λ i h st b hb=>by
  have e:b=it:=by simpa using hb
  subst e;obtain⟨o,e,c,d⟩:=st;exact⟨o,e,λ v z=>by rw[d] at z;cases z⟩
 keep:=λ i h h' st k=>st.at λ o e=>k it (by simp) o e
 item:=by intro X hP hw hK hc i pins s σ H E I hf st ⟨hg,hi⟩;subst hP hw hK;obtain⟨its,rv,p⟩:=nQ I.hok hg;obtain⟨u,hu,ru⟩:=rv.get (List.getElem?_eq_getElem hi);obtain⟨f0,f1,f2,f3,f4,f5⟩:=hf it (by simp);refine wpAny_pyNext_list_item st p (x:=u) (by simpa using hu) λ h' st' sb=>?_;have I1:Inv X pins σ H {s with heap:=h'}:=I.turned (t':=s.toks) (λ b o hb e=>(sb.2 b hb).trans e) f0 f1 f3 f4 f5;obtain⟨o,e,c,d⟩:=id st';exact⟨u,rfl,acK (s:={s with heap:=h'}) e c d (by decide) ⟨_,H,I1,ru,⟨rfl,List.getElem?_eq_getElem hi⟩,st',λ b hb=>(hf b hb).1⟩⟩
 done:=by intro X hP hw hK hc i pins s σ H E I hf st ⟨hg,hi⟩;subst hP hw hK;obtain⟨its,rv,p⟩:=nQ I.hok hg;obtain⟨f0,f1,f2,f3,f4,f5⟩:=hf it (by simp);have hl:=rv.length;exact wpAny_pyNext_list_end (I.ok.hd hc) st p (by simp;omega) λ h' eb=>⟨rfl,I.turned (t':=s.toks) (λ b o hb e=>eb b o hb e) f0 f1 f3 f4 f5⟩
 self:=λ _ _ _ _ _ st h=>wpAny_pyIter_listiter st h
def aiA(td:TE):TI:=λ σ H R=>td σ H λ x H1=>∃ a o l,x=.ref a/\H1 a=some (yc o l)/\R (Itf a o l) H1
theorem adC{td:TE}(ho:PE X o td):PI X tg o (aiA td):=by
 intro pins s σ H R I h;refine thn (ho pins s σ H _ I h) λ v s1 hq85=>?_;obtain⟨x,H1,I1,r1,a,ob,l,ex,hg,q⟩:=hq85;subst ex;cases r1;obtain⟨its,rv,p⟩:=nQ I1.hok hg;refine wpAny_pyIter_list p ?_;refine⟨s1.heap.objs.size,[s1.heap.objs.size],_,_,H1,rfl,I1.kept (t':=s1.toks) λ b o e=>Heap.get?_push_of_some _ e,zp a _ ob l,⟨_,Heap.get?_push_size _ rfl,rfl,rfl⟩,λ b hb=>?_,q⟩;have e:b=s1.heap.objs.size:=by simpa using hb
 subst e;exact I1.zJ (lr0 _) (I1.hok.fresh (lr0 _))
def qY(td:TD)(τ:DS)(M:MH)(R:List W->MH->Prop):Prop:=td τ M λ w M1=>∃ a ws,w=.m a/\M1 a=some (.flst ws)/\R ws M1
end D
namespace D
open L2
theorem qF(h:Jd (PD X e t)):Jd (PD X e (wJ t)):=⟨have h:=h.h;ie (aaA h) λ σ H Q hq82=>by obtain⟨τ,M,Qd,A,⟨a,ws,hm,q⟩,k⟩:=hq82;obtain⟨l,e,pr⟩:=A.mem _ _ hm;refine⟨a,l,e,λ o=>?_⟩;have kp:Kp H (upd H a (.frz o (.frz o (.lst l)))):=Kp.set e (λ _ z=>nomatch z) (λ _ _ z=>nomatch z);have m1:cX X.K (upd H a (.frz o (.frz o (.lst l)))) (bC M a (.flst ws)):=A.mem.put (mo:=.flst ws) kp ⟨o,l,aA,bu.keep kp pr⟩;refine⟨τ,_,_,A.go kp m1,q,λ v H' w M' kp' r' m' hq83=>?_⟩;obtain⟨h1,q1⟩:=hq83;have e':=kp'.frz a o _ aA;exact⟨e',k _ _ w _ (j9 e kp') (aQ.cM e' r') (cX.cM e' m' h1) q1⟩⟩
theorem jB(ho:Jd (PD X o td)):Jd (PId X tg o (qY td)):=⟨have ho:=ho.h;aj6 (adC ho) λ σ H R hq86=>by obtain⟨τ,M,Rd,A,h,k⟩:=hq86;refine⟨τ,M,_,A,h,λ v H1 w M1 kp r m hq87=>?_⟩;obtain⟨a,ws,ew,hm,q⟩:=hq87;subst ew;obtain⟨ob,l,e,pr⟩:=m _ _ hm;refine⟨a,ob,l,r,e,k _ H1 _ M1 kp m (λ H2 kp2 i=>?_) q⟩;have hl:=pr.length;have e2:=kp2.frz a ob _ e;refine⟨λ hi=>⟨e2,by omega⟩,λ hi=>⟨e2,by omega⟩,λ x H' hi hq88=>?_⟩;obtain⟨eH,ex⟩:=hq88;subst eH;have hi2:i<ws.length:=hi;obtain⟨x',ex',rx⟩:=bu.get (bu.keep kp2 pr) (List.getElem?_eq_getElem hi2);rw[ex'] at ex;cases ex;exact⟨Kp.refl _,λ M m=>m,ws[i],List.getElem?_eq_getElem hi2,rx⟩⟩
theorem akP(h:us.length=0):us=[]:=by exact List.eq_nil_of_length_eq_zero h
theorem acN(h:us.length=1):∃ a1:Value,us=[a1]:=by
 cases us with
 | nil=>simp at h
 | cons a r =>
  have e:r=[]:=akP (by simpa using h);subst e;exact⟨a,rfl⟩
theorem agJ(h:us.length=2):∃ a1 a2:Value,us=[a1,a2]:=by
 cases us with
 | nil=>simp at h
 | cons a r =>
  obtain⟨b1,e⟩:=acN (us:=r) (by simpa using h);subst e;exact⟨a,b1,rfl⟩
theorem akh(h:us.length=3):∃ a1 a2 a3:Value,us=[a1,a2,a3]:=by
 cases us with
 | nil=>simp at h
 | cons a r =>
  obtain⟨b1,b2,e⟩:=agJ (us:=r) (by simpa using h);subst e;exact⟨a,b1,b2,rfl⟩
section
variable {X:Cx}{K:FG}
end
section
variable {X:Cx}{K:FG}
end
section
variable {X:Cx}{K:FG}
end
section
variable {K:FG}
variable {X:Cx}{sc:Scope}{own:List Str}{fr:List Nat}{di:TId}{g:TGd}{tt:TTd}{te:TD}{tg iter elt:Expr}{ifs:List Expr}{pos:Pos}
end
section
variable {X:Cx}{tg iter elt:Expr}{pos:Pos}{sc:Scope}{own:List Str}{fr:List Nat}{di:TId}{g:TGd}{tt:TTd}{te:TD}{ifs:List Expr}
end
end D
namespace XO
open PySem.W Builtin.ObjectAttr
def xr:List Value:=[.type "ValueError",.type "Exception",.type "BaseException",.type "object"]
def fA:List Value->Bool
 | .ref _::r=>fA r
 | l=>l==xr
theorem rL{l:List Value}(h:fA l=true):l.isEmpty=false:=by
 cases l with
 | nil=>exact absurd h (by decide)
 | cons _ _=>rfl
theorem qH{l:List Value}(h:fA l=true):(∃ a r,l=.ref a::r/\fA r=true)\/l=xr:=by
 cases l with
 | nil=>exact absurd h (by decide)
 | cons v r =>
  cases v<;>first | exact .inl ⟨_,_,rfl,h⟩ | exact .inr (eq_of_beq (by simpa only[fA] using h))
theorem sF(T:String)(hT:xr.contains (.type T)=true):∀ {l:List Value},fA l=true->l.contains (.type T)=true:=by
 intro l
 induction l with
 | nil=>intro h;exact absurd h (by decide)
 | cons v r ih =>
  intro h;rcases qH h with ⟨a,r',e,q⟩ | e
  ·cases e;rw[List.contains_cons,ih q,Bool.or_true]
  ·rw[e];exact hT
theorem vY(self:Value):∀ {l:List Value},fA l=true->refuseLoop self "__setattr__" l=pure ():=by
 intro l
 induction l with
 | nil=>intro h;exact absurd h (by decide)
 | cons v r ih =>
  intro h;rcases qH h with ⟨a,r',e,q⟩ | e
  ·cases e;rw[refuseLoop_ref];exact ih q
  ·rw[e];exact PySem.F.store_ValueError.passes self
def afA(K:Frag)(C:Addr):Bool:=(clsIn K C).any λ cd=>cd.hasDict&&fA cd.mro
theorem gP{K:Frag}{C:Addr}(h:afA K C=true):∃ cd,clsIn K C=some cd/\cd.hasDict=true/\fA cd.mro=true:=by obtain⟨cd,e,q⟩:=any_some h;simp only[ae00] at q;exact⟨cd,e,q.1,q.2⟩
section
variable {prog:Program}{w:World}{A:Around}{E:VP}{s:Shared}{K:Frag}{x C:Addr}{name:Str}{v:Value}
theorem amd{M:Model}{h:Heap}{ox:Obj}{od:Option Obj}(X:K.In h)(c:afA K C=true)(I:W.InstAt h x ox C od){T:String}(hT:xr.contains (.type T)=true):Looks M h (isInstance (.ref x) (.type T)) true:=by obtain⟨cd,hc,_,hm⟩:=gP c;refine I.type.andThen (looks_mroIn X ?_);unfold mroIn;rw[hc,Option.bind_some,if_neg (by rw[rL hm];decide),sF T hT hm]
theorem amx{R:Result->Shared->Prop}{ox:Obj}{od:Option Obj}{tk:Tok}(X:K.In s.heap)(I:W.InstAt s.heap x ox C od)(c:afA K C=true)(na:findIn K (.ref C) name=some none)
  (h:∀ b,wpAny (model prog w) A.in1 (storeInOwnDict (.ref x) (.ref C) (.str name tk) name v b)
   (λ fin s'=>match fin with | .done f=>R (.ok f) s' | .again c'=>c'.quiet=true/\codeAny (model prog w) A c' R s') (λ e s'=>R (.error e) s') s) :
  codeAny (model prog w) A (.call (.builtin "object.__setattr__") ⟨[.ref x,.str name tk,v],[]⟩) R s:=by
 obtain⟨cd,hc,_,hm⟩:=gP c;have S:=PySem.F.store_object;refine codeAny_call_builtin S.slot.plain S.entry (@check_slot (model prog w) _ _ s "object.__setattr__" "object" "__setattr__" (.ref x) [.str name tk,v] [] _ S.kind S.split (amd X c I (by decide)) (S.args (.ref x) (.str name tk) v) ?_);rw[osa_eq,refuse_eq];have hm':Looks (model prog w) s.heap (mroOf (.ref C)) cd.mro:=(looks_clsIn X hc).andThen .now;refine wb0 (wb0 (I.type.here (wb0 (hm'.here ?_))));rw[vY _ hm];refine wp0 ?_;exact wb0 (I.type.here (wb0 ((looks_findIn X na).here (wb0 (wp0 (h _))))))
theorem akK{Q:Unit->Shared->Prop}{vs:Array Value}{sl:Array (Option Value)}(X:K.In s.heap)(c:afA K C=true)(sa:findIn K (.ref C) "__setattr__" = some (some (.builtin "object.__setattr__")))
  (na:findIn K (.ref C) name=some none)(hx:s.heap.get? x=some ⟨.ref C,none,.fields vs,sl⟩)
  (h:∀ h' tk dx,s.heap.objs.size<=dx->dx≠x->h'.get? x=some ⟨.ref C,some dx,.fields vs,sl⟩->h'.Ns1 dx (λ y=>if y=name then some v else none)->(∀ b o,b≠x->s.heap.get? b=some o->h'.get? b=some o)->Q () {s with heap:=h',toks:=tk}) :
  wpAny (model prog w) A (setAttr (.ref x) name v) Q E s:=by
 have I:W.InstAt s.heap x ⟨.ref C,none,.fields vs,sl⟩ C none:=⟨hx,rfl,rfl,True.intro⟩;refine set_plain X I sa (amx (s:={s with toks:=s.toks+1}) X I c na λ b=>?_);obtain⟨cd,hc,hd,_⟩:=gP c;refine wb0 (wp0 (wb0 (wb0 (wpAny_loadPart hx (wb0 (W.Looks.here (s:={s with toks:=s.toks+1}) (looks_clsIn X hc) ?_))))));rw[hd];have lx:x<s.heap.objs.size:=Heap.lt_size hx;have ne:s.heap.objs.size≠x:=Nat.ne_of_gt lx;refine wb0 (wpAny_alloc' (wb0 (wpAny_update' (Heap.get?_push_of_some _ hx) (wp0 ?_))));have e1:((s.heap.push {cls:=.type "dict",data:=.dict #[]}).update x λ o=>{o with dict:=some s.heap.objs.size}).get? s.heap.objs.size=some {cls:=.type "dict",data:=.dict #[]}:=
  (Heap.get?_update_ne _ _ _ _ ne).trans (Heap.get?_push_at rfl rfl)
 have e2:((s.heap.push {cls:=.type "dict",data:=.dict #[]}).update x λ o=>{o with dict:=some s.heap.objs.size}).get? x=some ⟨.ref C,some s.heap.objs.size,.fields vs,sl⟩:=
  Heap.get?_update_self _ (Heap.get?_push_of_some _ hx) rfl
 have e3:((s.heap.push {cls:=.type "dict",data:=.dict #[]}).update x λ o=>{o with dict:=some s.heap.objs.size}).Ns s.heap.objs.size (λ _=>none):=⟨_,#[],_,e1,rfl,λ _ z=>absurd z (by simp),λ _=>rfl⟩;refine wb0 (wp0 (wb0 (wpAny_nsSet1 (Heap.Ns1.of_empty e3) λ h2 n2 sb=>?_)));obtain⟨oD,esD,epD,g1,g2,g3⟩:=n2.count (PySem.Within.cons name v PySem.Within.nil);refine wb0 (wpAny_lookBehind g1 (by rw[g2];exact pastItsLine_dict (Nat.le_trans g3 (by rw[List.length_cons,List.length_nil,sizeLine_eq];omega))) (wp0 ?_));exact h h2 _ _ (lr0 _) ne ((sb.2 x (Ne.symm ne)).trans e2) n2 λ b o hb z=>(sb.2 b (Nat.ne_of_lt (Heap.lt_size z))).trans ((Heap.get?_update_ne _ _ _ _ hb).trans (Heap.get?_push_of_some _ z))
end
section
variable {prog:Program}{w:World}{A:Around}{E:VP}{s:Shared}{K:Frag}{x C:Addr}{name:Str}{v:Value}{ox:Obj}{od:Option Obj}
theorem af8:builtinKind "BaseException.__getattribute__" = some .slot:=by decide +kernel
theorem acC:splitId "BaseException.__getattribute__" = some ("BaseException", "__getattribute__"):=by decide +kernel
structure XC(K:Frag)(C:Addr):Prop where
 x:afA K C=true
 sa:findIn K (.ref C) "__setattr__" = some (some (.builtin "object.__setattr__"))
 ga:findIn K (.ref C) "__getattribute__" = some (some (.builtin "BaseException.__getattribute__"))
 gt:findIn K (.ref C) "__getattr__" = some none
 cl:findIn K (.ref C) "__class__" = some (some (.builtin "object.__class__"))
 cg:specialIn K (.builtin "object.__class__") "__get__" = some (some (.builtin "getset_descriptor.__get__"))
 ct:takesIn K (.builtin "object.__class__")=some true
theorem xby{fill expr:Bool}{tk:Tok}{Q:VP}(X:K.In s.heap)(c:XC K C)(I:W.InstAt s.heap x ox C od)
  (h:wpAny (model prog w) A.in1 (Builtin.«object.__getattribute__» ⟨[.ref x,.str name tk],[]⟩)
   (λ fin s'=>match fin with | .done (.ret v)=>wpAny (model prog w) A (handedOut v) Q E s' | _=>False) (λ _ _=>False) s) :
  wpAny (model prog w) A (getAttrBy (.ref x) (.str name tk) fill expr) Q E s:=by
 unfold getAttrBy;refine wpAny_holding (wb0 (I.type.here (wb0 ((looks_findIn X c.ga).here ?_))));have e1:(onTheHeap (Value.ref C)&&(Value.builtin "BaseException.__getattribute__" == Value.builtin "object.__getattribute__"))=false:=by rw[show(Value.builtin "BaseException.__getattribute__" == Value.builtin "object.__getattribute__")=false from by decide,Bool.and_false]
 dsimp only;rw[if_neg (by rw[e1];decide)];unfold getAttrByItsOwn hookBefore;refine wb0 ?_;rw[if_pos (show onTheHeap (Value.ref C)=true from rfl)];refine(looks_findIn X c.gt).here ?_;refine wb0 (wpAny_attempt (wpAny_holding ?_));unfold callGetattribute;rw[if_neg (by rw[show onTheHeap (Value.builtin "BaseException.__getattribute__")=false from rfl,Bool.and_false];decide)];unfold boundAndCalled;rw[PySem.F.excAttr_ValueError.ga.bind];refine wb0 (wp0 ?_);refine wpAny_call (codeAny_call_builtin PySem.F.excAttr_ValueError.ga.plain PySem.F.entry_bexc_ga (@check_slot (model prog w) _ _ s _ "BaseException" "__getattribute__" (.ref x) [.str name tk] [] _ af8 acC (amd X c.x I (by decide)) (PySem.F.args_bexc_ga _ _) ?_));refine wpAny_mono h (λ fin s' z=>?_) λ _ _ z=>z.elim;rcases fin with (_ | _ | _ | _) | _<;>first | exact z | exact z.elim
theorem amP{expr:Bool}{Q:VP}(X:K.In s.heap)(c:XC K C)(I:W.InstAt s.heap x ox C od)(hf:findObj K C od name=some (.value v))(hh:handedIn v=true)(h:Q v {s with toks:=s.toks+1}) :
  wpAny (model prog w) A (getAttr (.ref x) name expr) Q E s:=by
 unfold getAttr;refine wb0 (wpAny_mkText (xby (s:={s with toks:=s.toks+1}) X c I ?_));refine wb0 (wp0 (wb0 (wp0 (wb0 (W.Looks.here (s:={s with toks:=s.toks+1}) I.type (wb0 (W.Looks.here (s:={s with toks:=s.toks+1}) (looks_find X I hf) ?_)))))));refine wp0 ?_;show wpAny _ _ (handedOut v) _ _ _;rw[handedOut_of hh];exact wp0 h
theorem XC.mro(c:XC K C):mroIn K C (.type "object")=some true:=by obtain⟨cd,hc,_,hm⟩:=gP c.x;unfold mroIn;rw[hc,Option.bind_some,if_neg (by rw[rL hm];decide),sF "object" (by decide) hm]
theorem XC.at(c:XC K C):∃ cd o dd sl,K.lookup C=some ⟨o,dd,.cls cd,sl⟩:=by
 obtain⟨cd,hc,_,_⟩:=gP c.x;unfold clsIn at hc
 split at hc
 ·rename_i ho;exact⟨_,_,_,_,ho⟩
 ·cases hc
theorem XC.look{M:Model}{h:Heap}(c:XC K C)(X:K.In h):Looks M h (isType (.ref C)) true:=by obtain⟨cd,o,dd,sl,ho⟩:=c.at;refine λ A' Q' E' s' k q=>?_;unfold isType loadHead;exact wb0 (wpAny_loadPart (k _ _ (X _ _ ho)) (wp0 q))
theorem ahT{Q:Option Value->Shared->Prop}(X:K.In s.heap)(c:XC K C)(I:W.InstAt s.heap x ox C od)(h:Q (some (.ref C)) {s with toks:=s.toks+1}):wpAny (model prog w) A (getAttr? (.ref x) "__class__") Q E s:=by
 obtain⟨cd,hc,_,hm⟩:=gP c.x;have hf:findObj K C od "__class__" = some (.bind (.builtin "getset_descriptor.__get__") (.builtin "object.__class__")):=by
  unfold findObj;rw[hc,Option.bind_some,c.cl,Option.bind_some];simp[c.cg,c.ct]
 unfold getAttr? getAttrBy?;refine wb0 (wpAny_mkText (wb0 (wpAny_attempt (xby (s:={s with toks:=s.toks+1}) X c I ?_))));refine wb0 (wp0 (wb0 (wp0 (wb0 (W.Looks.here (s:={s with toks:=s.toks+1}) I.type (wb0 (W.Looks.here (s:={s with toks:=s.toks+1}) (looks_find X I hf) ?_)))))));show wpAny _ _ (holding [Value.builtin "object.__class__"] (call (.builtin "getset_descriptor.__get__") [.builtin "object.__class__",.ref x,.ref C]) >>= ret) _ _ _;refine wb0 (wpAny_holding (wpAny_call (class_get (s:={s with toks:=s.toks+1}) X I c.mro ?_)));exact wp0 (handed_on rfl (wp0 h))
theorem aew(c:XC K C):KitX K (.ref x) (.ref C) (λ h=>W.InstAt h x ox C od) where
 ty:=λ _ _ _ I=>I.type
 it:=λ _ _ X _=>c.look X
 ne:=λ h tp dd its n sl X htp=>by obtain⟨cd,o,d',s',e⟩:=c.at;refine Bool.eq_false_iff.mpr λ q=>?_;cases Value.ref.inj (beq_iff_eq.mp q);have z:=(X _ _ e).symm.trans htp;cases z
 ca:=λ X I k=>ahT X c I k
end
def xmk(K:Frag)(C:Addr):Bool:=match K.lookup C with
 | some ⟨.type "type",_,.cls cd,sl⟩=>(match cd.mro,sl.toList with
  | .ref D::bm,[_,_,_,_,some (.builtin n),_]=>D==C&&n == "ValueError.__new__" && !cd.hasDel&&tailIn K xr bm
  | _,_=>false)
 | _=>false
theorem abW{K:Frag}{C:Addr}{h:Heap}(X:K.In h)(e:xmk K C=true):∃ nm q N bs bm hdct sn sub ab col dd k0 k1 k2 k3 k5,
  h.get? C=some (excClassObj nm q C N bs bm hdct sn sub ab col dd k0 k1 k2 k3 k5 "ValueError.__new__")/\OwnTail h xr bm:=by
 unfold xmk at e
 split at e
 ·rename_i dd cd sl ho
  split at e
  ·rename_i D bm a0 a1 a2 a3 n a5 hm hs
   simp only[ae00,beq_iff_eq,Bool.not_eq_true'] at e;obtain⟨⟨⟨h1,h2⟩,h3⟩,h4⟩:=e;subst h1 h2;obtain⟨c1,c2,c3,c4,c5,c6,c7,c8,c9,c10,c11⟩:=cd;dsimp only at hm h3;subst hm h3;obtain⟨l⟩:=sl;simp only at hs;subst hs;exact⟨_,_,_,_,_,_,_,_,_,_,_,_,_,_,_,_,X _ _ ho,tail_of_in X h4⟩
  ·cases e
 ·cases e
abbrev zK(C t:Addr):Obj:={cls:=.ref C,data:=.fields #[.ref t,.none,.none,.none,.bool false,.none]}
section
variable {prog:Program}{w:World}{A:Around}{E:VP}{K:Frag}{C f:Addr}{h:Heap}{g:Array GenState}{d:Drawn}{t:Nat}{os:OsState}
theorem alA{us:List Value}{Q:PySem.Fin->Shared->Prop}(X:K.In h)(c:XC K C)(q:xmk K C=true)(hi:findIn K (.ref C) "__init__" = some (some (.ref f)))(hf:typeIn K (.ref f)=some (.type "function"))(hz:us.length<=sizeLine)
  (k:wpAny (model prog w) A (call (.ref f) (.ref (h.objs.size+1)::us)) (λ r s'=>r=.none/\Q (.done (.ret (.ref (h.objs.size+1)))) s') E
   ⟨(h.push {cls:=.type "tuple",data:=.seq us.toArray}).push (zK C h.objs.size),g,d,t,os⟩) :
  wpAny (model prog w) A (Builtin.«type.__call__» ⟨.ref C::us,[]⟩) Q E ⟨h,g,d,t,os⟩:=by
 obtain⟨nm,q',N,bs,bm,hdct,sn,sub,ab,col,dd,k0,k1,k2,k3,k5,hC,T⟩:=abW X q;have B:=PySem.F.excBase_ValueError
 repeat (first | with_reducible refine wpAny_loadPart_at hC ?_ | with_reducible refine wpAny_madeBy_exc hC ?_ | wp_step)
 refine codeAny_call_builtin_code (Code.quiet_builtin _ B.quiet) (wpAny_check_new_subT B T hC (codeAny_exc_new_subT B T hC ?_ hz));show wpAny _ _ _ _ _ _;have kp:∀ b o,h.get? b=some o->((h.push {cls:=.type "tuple",data:=.seq us.toArray}).push (zK C h.objs.size)).get? b=some o:=λ b o z=>Heap.get?_push_of_some _ (Heap.get?_push_of_some _ z);have X1:=X.keeps kp;have eg:((h.push {cls:=.type "tuple",data:=.seq us.toArray}).push (zK C h.objs.size)).get? (h.objs.size+1)=some (zK C h.objs.size):=by heap_get
 have I:W.InstAt ((h.push {cls:=.type "tuple",data:=.seq us.toArray}).push (zK C h.objs.size)) (h.objs.size+1) (zK C h.objs.size) C none:=⟨eg,rfl,rfl,True.intro⟩;obtain⟨cd,hc,_,hm⟩:=gP c.x;have hsub:Looks (model prog w) ((h.push {cls:=.type "tuple",data:=.seq us.toArray}).push (zK C h.objs.size)) (isInstance (.ref (h.objs.size+1)) (.ref C)) true:=by refine I.type.andThen (λ A' Q' E' s' k' z=>?_);exact wpAny_isSubtype_exc (h:=s'.heap) (g:=s'.gens) (d:=s'.drawn) (t:=s'.toks) (os:=s'.os) (k' _ _ (kp _ _ hC)) (by rw[show(Value.ref C::bm).contains (Value.ref C)=true from by simp];exact z)
 refine wb0 (hsub.here ?_);rw[if_neg (by decide)];refine wb0 (wpAny_holding (special_fn (s:=⟨_,g,d,t,os⟩) X1 I hi hf (wpAny_mono k (λ r s' z=>?_) λ _ _ z=>z)));obtain⟨rfl,z⟩:=z;exact wp0 z
theorem alz{us:List Value}{Q:VP}(X:K.In h)(c:XC K C)(q:xmk K C=true)(hi:findIn K (.ref C) "__init__" = some (some (.ref f)))(hf:typeIn K (.ref f)=some (.type "function"))(hz:us.length<=sizeLine)
  (k:wpAny (model prog w) (A.under (.builtin "type.__call__" ⟨.ref C::us,[]⟩)) (call (.ref f) (.ref (h.objs.size+1)::us)) (λ r s'=>r=.none/\Q (.ref (h.objs.size+1)) s') E
   ⟨(h.push {cls:=.type "tuple",data:=.seq us.toArray}).push (zK C h.objs.size),g,d,t,os⟩) :
  wpAny (model prog w) A (call (.ref C) us) Q E ⟨h,g,d,t,os⟩:=by
 obtain⟨nm,q',N,bs,bm,hdct,sn,sub,ab,col,dd,k0,k1,k2,k3,k5,hC,T⟩:=abW X q;have l1:=tc_lookup;have l2:=tc_bind (.ref C);have l3:(⟨h,g,d,t,os⟩:Shared).TypeIs (.ref C) "type":= ⟨_,hC,rfl⟩;refine wpAny_call (codeAny_of_tree ?_);show wpAny _ _ (callAny (.ref C) ⟨us,[]⟩) _ _ _
 repeat (any_goals (first | with_reducible refine wpAny_loadPart_at hC ?_ | assumption | wp_step))
 exact⟨rfl,codeAny_call_builtin_at (Code.quiet_builtin _ (by decide +kernel)) entry_typeCall (wpAny_check_type_call_sub hC (alA X c q hi hf hz k))⟩
end
abbrev vA(C:Addr)(dct:Option Addr)(vs:Array Value):Obj:={cls:=.ref C,dict:=dct,data:=.fields vs}
def Tb(h:Heap)(e:Addr)(vs:Array Value):Prop:=vs[1]? =some .none\/∃ T oT ts,vs[1]? =some (.ref T)/\T≠e/\h.get? T=some oT/\oT.data=.fields ts/\ts[3]? =some .none
theorem Tb.size{h:Heap}{e:Addr}{vs:Array Value}(t:Tb h e vs):1<vs.size:=by
 rcases t with z | ⟨_,_,_,z,_⟩<;>exact(Array.getElem?_eq_some_iff.mp z).1
structure Seen(fs:List Addr)(e:Addr)(h h':Heap):Prop where
 keep:∀ b o,b≠e->b ∉ fs->h.get? b=some o->h'.get? b=some o
 slot:∀ b o,b∈fs->h.get? b=some o->∃ sl,h'.get? b=some {o with slots:=sl}
theorem ady{Q:Unit->Shared->Prop}(hfr:A.frames=some (env::outer))(hl:s.heap.FunFrames base (env::outer))(hf:env.frame=some L)(he:s.heap.get? e=some (vA C dct vs))(tb:Tb s.heap e vs)
  (q:∀ h' vs',h'.get? e=some (vA C dct vs')->Tb h' e vs'->vs'[1]? ≠ some .none->vs'[2]? =vs[2]? -> Seen ((env::outer).filterMap (·.frame)) e s.heap h'->Q () {s with heap:=h'}) :
  wpAny M A (noteFrame (.ref e) env) (λ _ s1=>wpAny M A (setFlight (.ref e) none) Q E s1) E s:=by
 have nfr:∀ b o us,s.heap.get? b=some o->o.data=.fields us->b ∉ (env::outer).filterMap (·.frame):=λ b o us z zd hm=>by obtain⟨_,o',ho,hn⟩:=hl.mem hm;rw[z] at ho;cases ho;exact hn us zd
 have main:∀ (head:Value) (had:Bool),wpAny M A (do let a <- frameOf env;let pl <- entryPlaceOf L had;let b <- EntryCells.newEntry head a .none (rawInt L) .none pl;setField (.ref e) 1 b) (λ _ s1=>wpAny M A (setFlight (.ref e) none) Q E s1) E s:=by
  intro head had;refine wb0 (wpAny_frameOf_fun hfr hl hf λ h1 so=>wb0 (wpAny_entryPlaceOf λ pl hpl=>?_));unfold EntryCells.newEntry newFields;refine wb0 (wpAny_newObj_type ?_ (hpl.sizeOk5 _ _ _ _ _));have e1:h1.get? e=some (vA C dct vs):=(so.2.1 e (nfr e _ vs he rfl)).trans he;generalize hts:([head,Value.ref L,.none,rawInt L,.none]++(if pl.isEmpty then List.replicate 6 Value.none else pl)).toArray=ts;have hts3:3<ts.size:=by rw[<- hts];simp only[List.size_toArray,List.length_append,List.length_cons,List.length_nil]<;>omega
  have e2:=Heap.get?_push_of_some (h:=h1) {cls:=.type "traceback",dict:=none,data:=.fields ts} e1;refine wpAny_setField e2 rfl tb.size ?_;have ne:h1.objs.size≠e:=Nat.ne_of_gt (Heap.lt_size e1);have e3:((h1.push {cls:=.type "traceback",dict:=none,data:=.fields ts}).update e (Obj.mapFields (·.setIfInBounds 1 (Value.ref h1.objs.size)))).get? e=some (vA C dct (vs.setIfInBounds 1 (Value.ref h1.objs.size))):=
   Heap.get?_update_self _ e2 rfl
  have e4:((h1.push {cls:=.type "traceback",dict:=none,data:=.fields ts}).update e (Obj.mapFields (·.setIfInBounds 1 (Value.ref h1.objs.size)))).get? h1.objs.size=some {cls:=.type "traceback",dict:=none,data:=.fields ts}:=
   (Heap.get?_update_other _ _ (Ne.symm ne)).trans (Heap.get?_push_size h1 rfl)
  have v1:(vs.setIfInBounds 1 (Value.ref h1.objs.size))[1]? =some (Value.ref h1.objs.size):=by simp[tb.size]
  unfold setFlight;refine wb0 (wpAny_field e3 rfl v1 ?_);rw[if_pos (show(Value.ref h1.objs.size != Value.none)=true from by simp)];refine wpAny_setField e4 rfl hts3 (q _ (vs.setIfInBounds 1 (Value.ref h1.objs.size)) ?_ (.inr ⟨h1.objs.size,_,ts.setIfInBounds 3 .none,v1,ne,Heap.get?_update_self _ e4 rfl,rfl,by simp[hts3]⟩) (by rw[v1];intro z;cases z) (by simp) ?_)
  ·rw[Heap.get?_update_other _ _ ne];exact e3
  ·have kp:∀ b o,b≠e->h1.get? b=some o->(((h1.push {cls:=.type "traceback",dict:=none,data:=.fields ts}).update e (Obj.mapFields (·.setIfInBounds 1 (Value.ref h1.objs.size)))).update h1.objs.size
     (Obj.mapFields (·.setIfInBounds 3 ((none:Option Addr).elim Value.none λ f=>rawInt f)))).get? b=some o:=λ b o hb z=>by
    rw[Heap.get?_update_other _ _ (Nat.ne_of_gt (Heap.lt_size z)),Heap.get?_update_other _ _ (Ne.symm hb)];exact Heap.get?_push_of_some _ z
   refine⟨λ b o hb hm z=>kp b o hb ((so.2.1 b hm).trans z),λ b o hm z=>?_⟩;obtain⟨sl,z2⟩:=so.2.2 b o z;exact⟨sl,kp b _ (λ w=>nfr e _ vs he rfl (w ▸ hm)) z2⟩
 unfold noteFrame;simp only[hf];rcases tb with z | ⟨T,oT,ts,z1,z2,z3,z4,z5⟩
 ·refine wb0 (wpAny_field he rfl z ?_);rw[if_neg (by decide)];exact main _ _
 ·refine wb0 (wpAny_field he rfl z1 ?_);rw[if_pos (show(Value.ref T != Value.none)=true from by simp)];refine wb0 (wpAny_field z3 z4 z5 ?_);rw[if_neg (show ¬ ((Value.none==rawInt L)=true) from by simp[rawInt])];refine wb0 (wpAny_setField z3 z4 (Array.getElem?_eq_some_iff.mp z5).1 ?_);rw[Heap.update_setField_same s.heap T oT ts 3 .none z3 z4 z5];exact main _ _
end XO
namespace L2
open XO
def XF(e C:Addr)(dct:Option Addr)(cc:Bool):Heap->Prop:=λ h=>∃ vs,h.get? e=some (vA C dct vs)/\(cc=true->vs[2]? =some .none)
def DX(dx:Addr)(l:List (Str×V)):Heap->Prop:=λ h=>∃ mA,h.Ns1 dx mA/\(∀ f,pA (l.lookup f) (mA f))/\PySem.Within mA (l.map (·.1))
def Air(H:Hp)(h:Heap)(e:Addr):Prop:=∃ C dct vs cc,H e=some (.ext (XF e C dct cc))/\h.get? e=some (vA C dct vs)/\Tb h e vs/\(cc=true->vs[2]? =some .none)
theorem afZ(z:h.get? e=some (vA C dct vs))(c:cc=true->vs[2]? =some .none):cZ P w H h e (.ext (XF e C dct cc)):=
 ⟨⟨vs,z,c⟩,⟨_,z⟩,λ h1 h2 ⟨us,e1,c⟩ k=>⟨us,k _ e1,c⟩⟩
theorem akZ(z:DX dx l h):cZ P w H h dx (.ext (DX dx l)):=
 ⟨z,let ⟨_,⟨o,_,_,e,_⟩,_⟩:=z; ⟨o,e⟩,λ h1 h2 ⟨mA,n,r⟩ k=>⟨mA,n.at k,r⟩⟩
theorem Inv.seen(I:Inv X pins σ H s)(e:H a=some (.ext (XF a C dct cc)))(he:h'.get? a=some (vA C dct vs))(hc:cc=true->vs[2]? =some .none)(sn:Seen (frs X.stack) a s.heap h'):Inv X pins σ H {s with heap:=h'}:=by
 have nfs:∀ b u,H b=some u->b ∉ frs X.stack:=λ b u z hb=>by rw[I.xq b hb] at z;cases z
 refine I.call (g':=s.gens) (t':=s.toks) (d':=s.drawn) (ch:=[]) ⟨λ b o z n hb _=>sn.keep b o (λ w=>by rw[w,e] at n;cases n) hb z,λ b o z _ hb _=>sn.slot b o hb z,λ _ _ _ n _=>n,λ b o z _=>?_,λ _ _ z=>z,λ _ _ _ z=>z,λ _ ps z=>⟨#[],by rw[z];simp⟩⟩ (λ b o z=>?_) I.bare (λ b z=>absurd z (by simp))
 ·by_cases hb:b=a
  ·subst hb;exact⟨_,he⟩
  ·by_cases hm:b∈frs X.stack
   ·obtain⟨sl,q⟩:=sn.slot b o hm z;exact⟨_,q⟩
   ·exact⟨o,sn.keep b o hb hm z⟩
 ·by_cases hb:b=a
  ·subst hb;rw[e] at z;cases z;exact afZ he hc
  ·refine(I.hok b o z).vB (λ c u hc q=>sn.keep c u ?_ ?_ q) (λ _ q=>q) λ _ _ q=>q
   ·rcases hc with w | w
    ·rw[w];exact hb
    ·intro y;rw[y,e] at w;cases w
   ·rcases hc with w | w
    ·rw[w];exact nfs b o z
    ·exact nfs c _ w
theorem Inv.ady(I:Inv X pins σ H s)(hA:A.frames=some X.stack)(hst:X.stack=X.env::X.outer)(hf:X.env.frame=some X.env.locals)(air:Air H s.heap a)
  (q:∀ s',Inv X pins σ H s'->Air H s'.heap a->Q () s'):wpAny (model X.prog X.w) A (noteFrame (.ref a) X.env) (λ _ s1=>wpAny (model X.prog X.w) A (setFlight (.ref a) none) Q E s1) E s:=by
 obtain⟨C,dct,vs,cc,e1,e2,e3,e4⟩:=air;have st:=I.stack;rw[hst] at st hA;refine XO.ady hA st hf e2 e3 λ h' vs' g1 g2 _ g4 g3=>q _ (I.seen e1 g1 (λ z=>by rw[g4];exact e4 z) ?_) ⟨C,dct,vs',cc,e1,g1,g2,λ z=>by rw[g4];exact e4 z⟩;rw[hst];exact g3
def CXE(P:Program)(w:World):CXT:=λ outer H s E e s'=>∃ a H',e=.ref a/\s'.os=s.os/\AllBare s'.gens/\Un (frs outer) [] H H' s.heap s'.heap/\HOk P w H' s'.heap/\Air H' s'.heap a/\E e none H'
theorem abc(F:bK X.prog X.w X.K X.mg X.base CX k f fd ps sp)(hr:eO k X.A)(hb:Binds X.K fd ps [])(I:Inv X pins σ H s)(r:Vals vs us)(h:sp vs H Q E)(hx:∀ e s',CX X.stack H s E e s'->X.xe e s') :
  wpAny (model X.prog X.w) X.A (call (.ref f) us) (EP X pins σ Q) X.xe s:=by
 have hl:(us++[]).length=ps.length:=by rw[List.append_nil,<- r.length];exact F.len _ _ _ _ h
 have b:=hb s us I.kIn hl;rw[List.append_nil] at b;refine wpAny_call (codeAny_mono (F.run X.A X.stack s H ⟨us,[]⟩ us vs Q E hr I.afU b r h) λ r s' hq=>?_);cases r with
 | error e=>exact hx e s' hq
 | ok fl=>cases fl<;>first | exact I.after hq | exact False.elim hq
theorem abi(M:Mk X.K C f)(F:bK X.prog X.w X.K X.mg X.base CX k f fd ps sp)(hr:eO (k+1) X.A)(hb:Binds X.K fd ps [])(I:Inv X pins σ H s)(r:Vals vs us)
  (h:∀ x dx,H x=none->H dx=none->dx≠x->sp (.ref x::vs) (upd (upd H dx (.own x)) x (.ins C dx [])) (λ v H2=>v=.non/\Q (.ref x) H2) E)
  (hx:∀ H2 s2 e s',Inv X pins σ H2 s2->CX X.stack H2 s2 E e s'->X.xe e s'):wpAny (model X.prog X.w) X.A (call (.ref C) us) (EP X pins σ Q) X.xe s:=by
 have q:=h (s.heap.objs.size+1) s.heap.objs.size (I.hok.fresh (Nat.le_succ _)) (I.hok.fresh (lr0 _)) (Nat.ne_of_lt (Nat.lt_succ_self _));have J:=Inv.made (C:=C) I;have r2:Vals (V.ref (s.heap.objs.size+1)::vs) (Value.ref (s.heap.objs.size+1)::us):=.cons rfl r;have hl:((Value.ref (s.heap.objs.size+1)::us)++[]).length=ps.length:=by rw[List.append_nil,<- r2.length];exact F.len _ _ _ _ q
 have b:=hb _ _ J.kIn hl;rw[List.append_nil] at b;refine wpAny_call (aef (f:=f) I.kIn M.makes M.init (beq_iff_eq.mp M.fn) (codeAny_mono (F.run _ X.stack _ _ ⟨Value.ref (s.heap.objs.size+1)::us,[]⟩ _ _ _ E (hr.make C us []) (J.afU.make C us []) b r2 q) λ r s' hq=>?_));cases r with
 | error e=>exact hx _ _ e s' J hq
 | ok fl =>
  cases fl with
  | ret u =>
   obtain⟨v,H',I3,rv,ev,q3⟩:=J.after hq;subst ev;exact⟨rv,⟨V.ref (s.heap.objs.size+1),H',I3,rfl,q3⟩⟩
  | next=>exact False.elim hq
  | brk=>exact False.elim hq
  | cont=>exact False.elim hq
end L2
namespace D
open L2 XO
abbrev XQ:=Addr->MH->Prop
abbrev XE:=Addr->DS->MH->Prop
abbrev SpX:=List W->MH->QD->XQ->Prop
def eN(K:FG)(sp:SpX):Sp:=λ vs H Q E=>∃ ws M Qd Ed,bu K H ws vs/\cX K H M/\sp ws M Qd Ed/\Kont K H Qd Q/\∀ a H' M',Kp H H'->cX K H' M'->Ed a M'->E (.ref a) none H'
def Lk(X:Cx)(E:XE):Prop:=∀ (pins:PN) (σ:St) (H:Hp) (s:Shared) (a:Addr) (τ:DS) (M:MH),Inv X pins σ H s->Air H s.heap a->Abs X.K H σ τ M->E a τ M->X.xe (.ref a) s
section
variable {P:Program}{w:World}{K:FG}{mg:Str->Option Value}{base:Heap}
theorem aj1{N:List Str}{qual:Str}{scope:Scope}{cd:Value}{outer:List Env}{Ed:XQ}(he:∀ a H' M',Kp H H'->cX K H' M'->Ed a M'->E (.ref a) none H') :
  Lk (vD (CXE P w) P w K mg base N qual scope f cd A outer s H E) λ a _ M=>Ed a M:=by
 intro pins σ H1 s1 a τ M I air ab e;show wpAny _ _ (leaving _ _) _ _ _;unfold leaving;refine wb0 (I.ady I.ok.frames rfl rfl air λ s2 J air2=>?_);exact⟨a,H1,rfl,J.os,J.bare,J.base,J.hok,air2,he a H1 M (Kp.un J.base) ab.mem e⟩
theorem gQ{x qual:Str}{st:Stmt}{N ps:List Str}{k:Nat}{sp:SpX}{t:XE->TSd}(F:Fun K x qual st f fd)(S:aL N ps (ak st))(len:∀ ws M Q E,sp ws M Q E->ws.length=ps.length)
  (hbody:∀ (cdv:Value) (A:Around) (outer:List Env) (s:Shared) (H:Hp) (E:XK) (Ed:XE),eO k (A.deeper (envOfC qual (ak st) s.heap.objs.size f cdv))->Lk (vD (CXE P w) P w K mg base N qual (ak st) f cdv A outer s H E) Ed ->
   PassesOwn (model P w) (A.deeper (envOfC qual (ak st) s.heap.objs.size f cdv)) (envOfC qual (ak st) s.heap.objs.size f cdv) (vD (CXE P w) P w K mg base N qual (ak st) f cdv A outer s H E).xe ->
   pU (vD (CXE P w) P w K mg base N qual (ak st) f cdv A outer s H E) (aY st) (t Ed))
  (read:∀ ws M Q E,sp ws M Q E->t (λ a _ M=>E a M) {nx:=λ _ M'=>Q (.d .none) M',rt:=Q} (gA N ws) M):bK P w K mg base (CXE P w) (k+1) f fd ps (eN K sp):=by
 obtain⟨oc,od,kV,doc,pm,an,cdv,ct,osl,rfl,lk,hcd⟩:=F.ex;refine ajA lk hcd S (λ vs H Q E h=>?_) λ A outer s H vs Q E hr h=>?_
 ·obtain⟨ws,M,Qd,Ed,r,_,q,_⟩:=h;rw[<- r.length];exact len _ _ _ _ q
 ·obtain⟨ws,M,Qd,Ed,r,m,q,kk,ke⟩:=h;refine⟨_,hbody cdv A outer s H E (λ a _ M=>Ed a M) hr (aj1 ke) PassesOwn.leaving,gA N ws,M,_,nD r m,read ws M Qd Ed q,λ σ' H' τ' M' kp A' q'=>?_,λ v H' w' M' kp r' m' q'=>?_,λ σ' H' τ' M' kp A' q'=>q'.elim,λ σ' H' τ' M' kp A' q'=>q'.elim⟩
  ·exact kk _ H' _ M' kp (by simp[aQ,aN]) A'.mem q'
  ·exact kk v H' w' M' kp r' m' q'
end
theorem rC(L:Lk X E)(I:Inv X pins σ H s)(ab:Abs X.K H σ τ M)(hE:∀ v H',E' v none H'->∃ a M',v=.ref a/\Kp H H'/\cX X.K H' M'/\E a τ M')
  (h:CXE X.prog X.w X.stack H s E' u s'):X.xe u s':=by
 obtain⟨a,H',rfl,os,br,un,hok,air,q⟩:=h;obtain⟨a',M',e,kp,m',q'⟩:=hE _ _ q;cases e;exact L pins σ H' s' a τ M' (I.afb os un hok br (λ b z=>absurd z (by simp))) air (ab.go kp m') q'
def aem(sp:SpX)(E:XE)(t:TAd)(τ:DS)(M:MH)(Q:QD):Prop:=t τ M λ ws M1=>sp ws M1 Q λ a M'=>E a τ M'
def lE(C:Addr)(m:Str)(sp:SpX)(E:XE)(td:TD)(t:TAd)(τ:DS)(M:MH)(Q:QD):Prop:=td τ M λ w M1=>∃ a fs,w=.m a/\M1 a=some (.ins C fs)/\fs.lookup m=none/\t τ M1 λ ws M2=>sp (w::ws) M2 Q λ a M'=>E a τ M'
end D
namespace XO
open PySem.W
section
variable {prog:Program}{w:World}{A:Around}{E:VP}{s:Shared}{K:Frag}{env:PySem.Env}
theorem ae3(hh:A.handled=none)
  (h:wpAny (model prog w) A x (λ v s1=>∃ e C dct vs,v=.ref e/\K.In s1.heap/\afA K C=true/\typeIn K (.ref C)=some (.type "type")/\s1.heap.get? e=some (vA C dct vs)/\vs[1]? =some .none/\E (.ref e) s1) E s) :
  wpAny (model prog w) A (raiseStmt env (some x) none) Q E s:=by
 unfold raiseStmt;refine wb0 (wpAny_mono h (λ v s1 z=>?_) λ _ _ z=>z);obtain⟨e,C,dct,vs,rfl,X,c,ty,he,h1,q⟩:=z;obtain⟨hp,g,d,tk,os⟩:=s1;have L:Looks (model prog w) hp (isType (.ref e)) false:=λ A' Q' E' s' k q=>by
  unfold isType loadHead;exact wb0 (wpAny_loadPart (k _ _ he) (wp0 q))
 have T:Looks (model prog w) hp (typeOf (.ref e)) (.ref C):=(Looks.ld he).andThen .now;obtain⟨cd,hc,_,hm⟩:=gP c;have S:Looks (model prog w) hp (isInstance (.ref e) (.type "BaseException")) true:=T.andThen (looks_mroIn X (by
  unfold mroIn;rw[hc,Option.bind_some,if_neg (by rw[rL hm];decide),sF "BaseException" (by decide) hm]))
 have N:Looks (model prog w) hp (isExcClass (.ref e)) false:=L.andThen .now;have Y:=looks_typeIn (M:=model prog w) X ty;have R:Looks (model prog w) hp (raisedInstance (.ref e)) (.ref e):=T.andThen (Y.andThen (by rw[if_pos (by decide)];exact .now));have Z:Looks (model prog w) hp (excFromValue (.ref e) "exceptions must derive from BaseException") (.ref e):=by
  unfold excFromValue;refine N.andThen ?_;rw[if_neg ft0];refine S.andThen ?_;rw[if_pos rfl];exact .now
 refine wb0 (wp0 (wb0 (wpAny_holding (Z.at ?_))));dsimp only;refine wb0 (L.at ?_);rw[if_neg ft0];refine wb0 (R.at ?_);unfold setFlight;refine wb0 (wb0 (wpAny_field he rfl h1 ?_));rw[if_neg (by decide)];exact wp0 (wpAny_raiseNew_none hh q)
end
end XO
namespace L2
open XO
def XV(e C:Addr)(dct:Option Addr)(vs:Array Value):Heap->Prop:=λ h=>h.get? e=some (vA C dct vs)
theorem ahQ(z:h.get? e=some (vA C dct vs)):cZ P w H h e (.ext (XV e C dct vs)):=⟨z,⟨_,z⟩,λ h1 h2 e1 k=>k _ e1⟩
theorem Inv.wr2(I:Inv X pins σ H s)(e:H a=some (.ext φ))(hp:s.heap.objs.size<=dx)(kp:∀ b o,b≠a->s.heap.get? b=some o->h'.get? b=some o)
  (o1:cZ X.prog X.w (upd (upd H dx u) a (.ext φ')) h' a (.ext φ'))(o2:cZ X.prog X.w (upd (upd H dx u) a (.ext φ')) h' dx u):Inv X pins σ (upd (upd H dx u) a (.ext φ')) {s with heap:=h',toks:=t'}:=by
 have hn:H dx=none:=I.hok.fresh hp;have ne:dx≠a:=λ z=>by rw[z,e] at hn;cases hn
 have at_:∀ b,b≠a->b≠dx->(upd (upd H dx u) a (.ext φ')) b=H b:=λ b h1 h2=>by rw[aB h1,aB h2]
 have nd:∀ b v,H b=some v->b≠dx:=λ b v z w=>by rw[w,hn] at z;cases z
 have na:∀ b v,H b=some v->(∀ ψ,v ≠ .ext ψ)->b≠a:=λ b v z q w=>by rw[w,e] at z;cases z;exact q _ rfl
 refine I.un ⟨λ b o z n _ _=>kp b o (λ w=>by rw[w,e] at n;cases n) z,λ b o z n _ _=>⟨o.slots,kp b o (λ w=>by rw[w,e] at n;cases n) z⟩,λ b o z n _=>?_,λ b o z _=>?_,λ b xs z=>?_,λ b o v z=>?_,λ b ps z=>⟨#[],?_⟩⟩ (λ b o z=>?_)
 ·rw[at_ b (λ w=>by rw[w,e] at n;cases n) (Nat.ne_of_lt (Nat.lt_of_lt_of_le (Heap.lt_size z) hp))];exact n
 ·by_cases hb:b=a
  ·subst hb;exact o1.2.1
  ·exact⟨o,kp b o hb z⟩
 ·rw[at_ b (na b _ z λ _ w=>nomatch w) (nd b _ z)];exact z
 ·rw[at_ b (na b _ z λ _ w=>nomatch w) (nd b _ z)];exact z
 ·rw[at_ b (na b _ z λ _ w=>nomatch w) (nd b _ z),z];simp
 ·by_cases hb:b=a
  ·subst hb;rw[aA] at z;cases z;exact o1
  ·rw[aB hb] at z
   by_cases hb2:b=dx
   ·subst hb2;rw[aA] at z;cases z;exact o2
   ·rw[aB hb2] at z;refine(I.hok b o z).vB (λ c v hc q=>kp c v ?_ q) (λ c q=>?_) λ c xs q=>?_
    ·rcases hc with w | w
     ·rw[w];exact hb
     ·exact na c _ w λ _ y=>nomatch y
    ·rw[at_ c (na c _ q λ _ w=>nomatch w) (nd c _ q)];exact q
    ·rw[at_ c (na c _ q λ _ w=>nomatch w) (nd c _ q)];exact q
def sX0(C:Addr)(ta tv:TE)(f:Str):TS:=λ D σ H=>tv σ H λ y H1=>ta σ H1 λ x H2=>∃ a vs,x=.ref a/\H2 a=some (.ext (XV a C none vs))/\∀ dx,H2 dx=none->dx≠a->D.nx σ (upd (upd H2 dx (.ext (DX dx [(f,y)]))) a (.ext (XV a C (some dx) vs)))
theorem alH(c:XC X.K C)(n:cN X.K C f)(ha:PE X o ta)(hv:PE X value tv)(hs:swapsWith value (some (.Attribute o f pos')) pos.line X.env=pure false:=by rfl):PS X (.Assign [.Attribute o f pos'] value pos) (sX0 C ta tv f):=by
 intro pins s σ H D I h;refine plainObj_wpAny_Assign_Attribute (thn (hv pins s σ H _ I h) λ u s1 ⟨y,H1,I1,ry,q⟩=>thn (ha pins s1 σ H1 _ I1 q) λ ov s2 ⟨x,H2,I2,rx,a,vs,ex,ea,q2⟩=>?_) hs;subst ex;obtain rfl:ov=Value.ref a:=rx;have hx:s2.heap.get? a=some (vA C _ vs):=(I2.hok a _ ea).1;refine akK I2.kIn c.x c.sa n hx λ h' tk dx g1 g2 g3 g4 g5=>?_;refine⟨σ,_,I2.wr2 ea g1 g5 (ahQ g3) (akZ ⟨_,g4,λ g=>?_,λ g hg=>?_⟩),q2 dx (I2.hok.fresh g1) g2⟩
 ·by_cases e:g=f
  ·subst e;simp only[List.lookup,beq_self_eq_true,if_true];exact ry
  ·simp only[List.lookup,beq_eq_false_iff_ne.mpr e,if_neg e];exact True.intro
 ·by_cases e:g=f
  ·rw[e];simp
  ·exact absurd (by show(if g=f then some u else none)=none;rw[if_neg e]) hg
def k8(C:Addr)(fs:List Str):Sp:=λ vs H Q _=>∃ e ys us,vs=.ref e::ys/\ys.length=fs.length/\H e=some (.ext (XV e C none us))/\∀ dx,H dx=none->dx≠e->Q .non (upd (upd H dx (.ext (DX dx (fs.zip ys)))) e (.ext (XV e C (some dx) us)))
section
variable {P:Program}{w:World}{K:FG}{mg:Str->Option Value}{base:Heap}{C f:Addr}{fd:FuncData}{qual:Str}{st:Stmt}
theorem abQ(F:Fun K "__init__" qual st f fd)(S:aL ["self",p] ["self",p] (ak st))(c:XC K C)(n:cN K C g)
  (hb:aY st=[.Assign [.Attribute (.Name "self" p1) g p2] (.Name p p3) p4])(hs:∀ env,swapsWith (.Name p p3) (some (.Attribute (.Name "self" p1) g p2)) p4.line env=pure false)(hp:(p==("__debug__" : Str))=false)(hc:(p==("__classdict__" : Str))=false):bK P w K mg base CX0 1 f fd ["self",p] (k8 C [g]):=by
 refine F.ok (k:=0) S (λ vs H Q E ⟨e,ys,us,h1,h2,_⟩=>by rw[h1,List.length_cons,h2];rfl) λ cdv A outer s H vs Q E hr h=>?_;obtain⟨e,ys,us,rfl,h2,h3,q⟩:=h;obtain⟨y,rfl⟩:∃ y,ys=[y]:=by
  match ys,h2 with
  | [y],_=>exact⟨y,rfl⟩
 rw[hb];have v1:=S.par "self" (by simp);have v2:=S.par p (by simp);refine⟨_,zN (alH c n (ab1 (i:=0) rfl (v1.elim .inl λ z=>.inr (.inl z)) (by decide) (by decide)) (ab1 (i:=1) rfl (v2.elim .inl λ z=>.inr (.inl z)) hp hc) (hs _)),?_⟩;exact⟨y,rfl,.ref e,rfl,e,us,rfl,h3,λ dx hd ne=>q dx hd ne⟩
end
end L2
namespace D
open L2 XO
theorem yf{K:FG}{H:Hp}:∀ (fs:List Str) {ws:List W} {vs:List V},bu K H ws vs->Paired (λ(p:Str×W) (q:Str×V)=>p.1=q.1/\aQ K H p.2 q.2) (fs.zip ws) (fs.zip vs)
 | [],_,_,_=>.nil
 | _::_,_,_,.nil=>.nil
 | f::fs,_,_,.cons r t=>.cons ⟨rfl,r⟩ (yf fs t)
def iE(C:Addr)(fs:List Str)(E:XE)(t:TAd)(_:Ed)(τ:DS)(M:MH):Prop:=t τ M λ ws M1=>ws.length=fs.length/\ws.length<=1000/\∀ a,M1 a=none->E a τ (bC M1 a (.exc C (fs.zip ws)))
structure Xm(K:FG)(C f:Addr):Prop where
 xc:XC K C
 xm:xmk K C=true
 ty:W.typeIn K (.ref C)=some (.type "type")
 hi:W.findIn K (.ref C) "__init__" = some (some (.ref f))
 hf:W.typeIn K (.ref f)=some (.type "function")
 kp:W.keepIn K (.ref C)=true
end D
namespace L2
open XO
def vz(H₀ H:Hp):Hp:=λ b=>match H b with
 | some (.tup xs)=>some (.tup xs)
 | some (.frz o u)=>some (.frz o u)
 | _=>H₀ b
theorem aaT(h:H b=some (.tup xs)):vz H₀ H b=some (.tup xs):=by unfold vz;rw[h]
theorem abf(h:H b=some (.frz o u)):vz H₀ H b=some (.frz o u):=by unfold vz;rw[h]
theorem acj(h:vz H₀ H b=some v):H₀ b=some v\/H b=some v:=by
 unfold vz at h
 split at h
 ·rename_i e;rw[e];exact .inr h
 ·rename_i e;rw[e];exact .inr h
 ·exact .inl h
theorem rH(h:vz H₀ H b=none):H₀ b=none:=by
 unfold vz at h
 split at h
 ·cases h
 ·cases h
 ·exact h
theorem rM(h:H₀ b=none)(h2:H b=none):vz H₀ H b=none:=by
 unfold vz;rw[h2];exact h
abbrev Cx.qB(X:Cx)(H0:Hp)(pn:PN)(xe:VP):Cx:={X with H₀:=H0,pn:=pn,xe:=xe}
abbrev Cx.jh(X:Cx)(a:Addr):Cx:={X with A:=X.A.mark (some (.ref a)),calm:=false,xe:=λ _ _=>False}
theorem Inv.ahS(I:Inv X pins σ H s):∀ b∈X.fs,H b=none:=λ b hb=>by obtain⟨_,o,ho,_⟩:=I.ok.sI.mem hb;exact I.base.free b o ho (I.ok.frf b hb) λ z=>I.ok.exfs b z hb
theorem Inv.akj(I:Inv X pins σ H s):Inv (X.qB (vz X.H₀ H) (X.pn++pins) xe) [] σ H s:=by
 refine⟨⟨I.ok.mod,I.ok.kind,I.ok.glob,I.ok.blt,I.ok.above,I.ok.inj,I.ok.has,I.ok.cab,I.ok.hd,I.ok.frames,I.ok.stk,I.ok.exf,λ b o e=>⟨(I.ok.bs b o e).1,rM (I.ok.bs b o e).2 (I.bs b o e).2⟩,I.ok.bsz,I.ok.noex,I.ok.exfs,I.ok.sI,λ b hb=>rM (I.ok.frf b hb) (I.ahS b hb)⟩,
  I.os,I.bare,⟨λ b o e n hb hx=>I.base.keep b o e (rH n) hb hx,λ b o e n hb hx=>I.base.slot b o e (rH n) hb hx,λ b o e n hx=>I.base.free b o e (rH n) hx,I.base.there,λ b xs e=>?_,λ b o u e=>?_,λ b ps e=>?_⟩,
  I.loc,I.cell,I.free,I.freeC,λ p hp=>I.pin p (by simpa using hp),I.hok,I.len⟩
 ·rcases acj e with z | z
  ·exact I.base.tups b xs z
  ·exact z
 ·rcases acj e with z | z
  ·exact I.base.frzs b o u z
  ·exact z
 ·rcases acj e with z | z
  ·exact I.base.tbls b ps z
  ·exact⟨#[],by rw[z];simp⟩
theorem Inv.aaY(I:Inv X pins σ H s)(J:Inv (X.qB (vz X.H₀ H) (X.pn++pins) xe) pins' σ' H' s'):Inv X pins σ' H' s':=by
 have nn:∀ b o,X.s₀.heap.get? b=some o->X.H₀ b=none->b ∉ X.ex->vz X.H₀ H b=none:=λ b o e n hx=>rM n (I.base.free b o e n hx);exact⟨I.ok,J.os,J.bare,⟨λ b o e n hb hx=>J.base.keep b o e (nn b o e n hx) hb hx,λ b o e n hb hx=>J.base.slot b o e (nn b o e n hx) hb hx,λ b o e n hx=>J.base.free b o e (nn b o e n hx) hx,J.base.there,λ b xs e=>J.base.tups b xs (aaT (I.base.tups b xs e)),λ b o u e=>J.base.frzs b o u (abf (I.base.frzs b o u e)),λ b ps e=>by obtain⟨m1,e1⟩:=I.base.tbls b ps e;refine J.base.tbls b ps ?_;show vz X.H₀ H b=_;unfold vz;rw[e1];exact e⟩,J.loc,J.cell,J.free,J.freeC,λ p hp=>J.pin p (List.mem_append_left _ hp),J.hok,J.len⟩
theorem Inv.jh(I:Inv X pins σ H s)(a:Addr):Inv (X.jh a) pins σ H s:=
 ⟨⟨I.ok.mod,I.ok.kind,I.ok.glob,I.ok.blt,I.ok.above,I.ok.inj,I.ok.has,I.ok.cab,(λ z=>nomatch z),I.ok.frames,I.ok.stk,I.ok.exf,I.ok.bs,I.ok.bsz,I.ok.noex,I.ok.exfs,I.ok.sI,I.ok.frf⟩,I.os,I.bare,I.base,I.loc,I.cell,I.free,I.freeC,I.pin,I.hok,I.len⟩
theorem Inv.uncaught(ok:X.Ok)(I:Inv (X.jh a) pins σ H s):Inv X pins σ H s:=⟨ok,I.os,I.bare,I.base,I.loc,I.cell,I.free,I.freeC,I.pin,I.hok,I.len⟩
theorem Inv.gone(I:Inv X pins σ H s)(hn:h'.Ns X.env.locals m')(sb:Heap.SameBut X.env.locals s.heap h'):Inv X pins (List.replicate σ.length none) H {s with heap:=h',toks:=t'}:=by
 have ne:∀ b o,X.s₀.heap.get? b=some o->b≠X.env.locals:=λ b o e=>Nat.ne_of_lt (Nat.lt_of_lt_of_le (Heap.lt_size e) I.ok.above);refine⟨I.ok,I.os,I.bare,⟨λ b o e n hb hx=>(sb.2 b (ne b o e)).trans (I.base.keep b o e n hb hx),λ b o e n hb hx=>?_,I.base.free,λ b o e hx=>?_,I.base.tups,I.base.frzs,I.base.tbls⟩,⟨m',hn,λ i x v e1 e2 e3=>?_⟩,λ x c e=>?_,I.free,I.freeC,λ p hp=>?_,λ b o e=>?_,by rw[List.length_replicate];exact I.len⟩
 ·obtain⟨sl,z⟩:=I.base.slot b o e n hb hx;exact⟨sl,(sb.2 b (ne b o e)).trans z⟩
 ·obtain⟨o',z⟩:=I.base.there b o e hx;exact⟨o',(sb.2 b (ne b o e)).trans z⟩
 ·rw[List.getElem?_replicate] at e2
  split at e2<;>cases e2
 ·obtain⟨v,z⟩:=I.cell x c e;exact⟨v,z.sameBut sb (I.cne x c e)⟩
 ·obtain⟨z,n,nl,nf,d⟩:=I.pin p hp;exact⟨(sb.2 p.1 nl).trans z,n,nl,nf,d⟩
 ·refine(I.hok b o e).vB (λ c u hc q=>(sb.2 c λ z=>?_).trans q) (λ _ q=>q) λ _ _ q=>q;rcases hc with y | y
  ·rw[z] at y;rw[<- y,I.free] at e;cases e
  ·rw[z,I.free] at y;cases y
theorem Air.ajD(air:Air H s.heap a)(q:Q () s):wpAny M A (setFlight (.ref a) none) Q E s:=by
 obtain⟨C,dct,vs,cc,e1,e2,tb,_⟩:=air;unfold setFlight;rcases tb with z | ⟨T,oT,ts,z1,z2,z3,z4,z5⟩
 ·refine wb0 (wpAny_field e2 rfl z ?_);rw[if_neg (by decide)];exact wp0 q
 ·refine wb0 (wpAny_field e2 rfl z1 ?_);rw[if_pos (show(Value.ref T != Value.none)=true from by simp)];refine wpAny_setField z3 z4 (Array.getElem?_eq_some_iff.mp z5).1 ?_;rw[show((none:Option Addr).elim Value.none λ f=>rawInt f)=Value.none from rfl,Heap.update_setField_same s.heap T oT ts 3 .none z3 z4 z5];exact q
end L2
namespace D
open L2 XO
theorem Abs.forget{K:FG}{H:Hp}{σ:St}{τ:DS}{M:MH}(h:Abs K H σ τ M):Abs K H (List.replicate σ.length none) (List.replicate τ.length none) M:=by
 refine⟨by simp[h.len],λ i w e=>?_,h.mem⟩;rw[List.getElem?_replicate] at e
 split at e<;>cases e
section
variable {X:Cx}{pos np hpos:Pos}{body suite:List Stmt}{b0:Stmt}{hs:List ExceptHandler}{h0:ExceptHandler}{tb:XE->TSd}{th rest:Addr->TSd}{ts:TSd}
def PHd(X:Cx)(hs:List ExceptHandler)(th:Addr->TSd):Prop:=∀ (pins:PN) (σ:St) (H:Hp) (s:Shared) (a:Addr) (D:Ends),Inv X pins σ H s->Air H s.heap a->upS X.K (th a) D σ H->wpAny (model X.prog X.w) X.A (handleBy (.ref a) X.env hs) (SP X pins D) X.xe s
def aj5(tb:XE->TSd)(th:Addr->TSd)(D:Ed)(τ:DS)(M:MH):Prop:=tb (λ a τ' M'=>th a D τ' M') D τ M
theorem agy(hst:X.stack=X.env::X.outer)(hf:X.env.frame=some X.env.locals)
  (hb:∀ (H0:Hp) (pn:PN) (xe:VP) (E:XE),Lk (X.qB H0 pn xe) E->PassesOwn (model X.prog X.w) X.A X.env xe->pU (X.qB H0 pn xe) body (tb E))(hh:PHd X (h0::hs) th):PSd X (.Try body (h0::hs) [] [] pos) (aj5 tb th):=by
 intro pins s σ H D I h;obtain⟨τ,M,Dd,A,h,k1,k2,k3,k4⟩:=h;refine wpAny_Try_except ?_;refine wpAny_mono (hb (vz X.H₀ H) (X.pn++pins) (λ e s1=>wpAny (model X.prog X.w) X.A (noteFrame e X.env) (λ _ s2=>wpAny (model X.prog X.w) X.A (setFlight e none) (λ _ s3=>wpAny (model X.prog X.w) X.A (handleBy e X.env (h0::hs)) (SP X pins D) X.xe s3) X.xe s2) X.xe s1)
  (λ a τ' M'=>th a Dd τ' M') (λ pins' σ' H' s' a τ' M' J air ab e=>?_) PassesOwn.looking [] s σ H D I.akj ⟨τ,M,Dd,A,h,k1,k2,k3,k4⟩) (λ f s1 q=>?_) λ _ _ z=>z
 ·have J2:=I.aaY J;have kp:Kp H H':=⟨λ b xs z=>J.base.tups b xs (aaT z),λ b o u z=>J.base.frzs b o u (abf z)⟩;refine J2.ady J2.ok.frames hst hf air λ s3 J3 air3=>hh pins σ' H' s3 a D J3 air3 ⟨τ',M',Dd,ab,e,λ σ2 H2 τ2 M2 k=>k1 σ2 H2 τ2 M2 (kp.trans k),λ v H2 w M2 k=>k2 v H2 w M2 (kp.trans k),λ σ2 H2 τ2 M2 k=>k3 σ2 H2 τ2 M2 (kp.trans k),λ σ2 H2 τ2 M2 k=>k4 σ2 H2 τ2 M2 (kp.trans k)⟩
 ·cases f with
  | next=>obtain⟨σ',H',J,q⟩:=q;exact wpAny_execs_nil ⟨σ',H',I.aaY J,q⟩
  | brk=>obtain⟨σ',H',J,q⟩:=q;exact⟨σ',H',I.aaY J,q⟩
  | cont=>obtain⟨σ',H',J,q⟩:=q;exact⟨σ',H',I.aaY J,q⟩
  | ret u=>obtain⟨v,σ',H',J,r,q⟩:=q;exact⟨v,σ',H',I.aaY J,r,q⟩
def acG(tab:Addr->Option Bool)(i:Nat)(ts:TSd)(rest:Addr->TSd)(a:Addr)(D:Ed)(τ:DS)(M:MH):Prop:=∃ C fs b,M a=some (.exc C fs)/\tab C=some b /\
 if b=true then ts {nx:=λ τ2 M2=>D.nx (List.replicate τ2.length none) M2,rt:=D.rt,bk:=λ τ2 M2=>D.bk (List.replicate τ2.length none) M2,ct:=λ τ2 M2=>D.ct (List.replicate τ2.length none) M2} (τ.set i (some (.m a))) M else rest a D τ M
theorem Air.cls{K:FG}{H:Hp}{h:Heap}{a C:Addr}{M:MH}{fs:List (Str×W)}(air:Air H h a)(m:cX K H M)(e:M a=some (.exc C fs)):∃ dct vs,h.get? a=some (vA C dct vs):=by obtain⟨C',dct,vs,cc,e1,e2,_,cd⟩:=air;obtain⟨φ,dct',g1,g2,_⟩:=m a _ e;rw[e1] at g1;cases g1;obtain⟨vs',e3,_⟩:=g2 h ⟨vs,e2,cd⟩;exact⟨_,vs',e3⟩
theorem afV(I:Inv X pins σ H s)(hg:Gl X x)(hm:X.mg x=some (.ref D))(he:s.heap.get? a=some (vA C dct vs))
  (ht:W.exmOne X.K (.ref C) (.ref D)=some b)(hdb:ND x)(q:R (.ok (if b then .brk else .next)) s) :
  codeAny (model X.prog X.w) (X.A.mark (some (.ref a))) (.handlers (.ref a) [.ExceptHandler (some (.Name x np)) none [] hpos] X.env) R s:=by
 refine codeAny_handlers_test (iL (X:=X.jh a) (I.jh a) hg hm ?_ hdb);exact(W.exm_one (M:=model X.prog X.w) I.kIn ((W.Looks.ld he).andThen .now) ht).here q
theorem ak9(hg:Gl X x)(hm:X.mg x=some (.ref Dc))(ht:∀ C b,tab C=some b->W.exmOne X.K (.ref C) (.ref Dc)=some b)(hN:X.N.Nodup)(hi:X.N[i]? =some n)(hl:X.env.scope.names.lookup n=some .local)(hk:X.env.scope.kind=.function)
  (hsu:∀ a,pU (X.jh a) (b0::suite) ts)(hr:PHd X hs rest)(hdb:ND x:=by decide):PHd X (.ExceptHandler (some (.Name x np)) (some n) (b0::suite) hpos::hs) (acG tab i ts rest):=by
 intro pins σ H s a Dn I air h;obtain⟨τ,M,Dd,A,⟨C,fs,b,hma,htb,h⟩,k1,k2,k3,k4⟩:=h;obtain⟨dct,vs,he⟩:=Air.cls air A.mem hma;refine wpAny_handleBy_cons (afV I hg hm he (ht C b htb) hdb ?_) (by intro q;cases q);cases b with
 | false=>exact hr pins σ H s a Dn I air ⟨τ,M,Dd,A,h,k1,k2,k3,k4⟩
 | true =>
  rw[if_pos rfl] at h;refine codeAny_handlers_suite_as (air.ajD ?_);refine ky (X:=X.jh a) (i:=i) (v:=.ref a) (I.jh a) hN hi (.inl hl) rfl (λ s2 J=>?_) (.inr hl);have gone:∀ {σ3:St} {H3:Hp} {s3:Shared} {Q:Unit->Shared->Prop},Inv (X.jh a) pins σ3 H3 s3->(∀ s4,Inv X pins (List.replicate σ3.length none) H3 s4->Q () s4)->wpAny (model X.prog X.w) X.A (do bindName X.env n .none;unbindBehindTheSuite X.env n hpos) Q X.xe s3:=λ {σ3 H3 s3 Q} J3 q=>by obtain⟨m,hn,_⟩:=J3.loc;refine wpAny_nameGoes hl hn (by rw[hk];rfl) λ h' m' hn' sb=>q _ ((J3.uncaught I.ok).gone hn' sb)
  have ab2:=A.set i (v:=.ref a) (w:=.m a) rfl;refine wpAny_mono (hsu a pins s2 _ H {nx:=λ σ2 H2=>Dn.nx (List.replicate σ2.length none) H2,rt:=Dn.rt,bk:=λ σ2 H2=>Dn.bk (List.replicate σ2.length none) H2,ct:=λ σ2 H2=>Dn.ct (List.replicate σ2.length none) H2} J ⟨_,M,_,ab2,h,λ σ2 H2 τ2 M2 kp A2 q=>?_,λ v H2 w M2 kp r m q=>k2 v H2 w M2 kp r m q,λ σ2 H2 τ2 M2 kp A2 q=>?_,λ σ2 H2 τ2 M2 kp A2 q=>?_⟩) (λ f s3 q=>?_) λ _ _ z=>z.elim
  ·exact k1 _ H2 _ M2 kp A2.forget q
  ·exact k3 _ H2 _ M2 kp A2.forget q
  ·exact k4 _ H2 _ M2 kp A2.forget q
  ·cases f with
   | next=>obtain⟨σ3,H3,J3,q⟩:=q;exact gone J3 λ s4 J4=>⟨_,H3,J4,q⟩
   | brk=>obtain⟨σ3,H3,J3,q⟩:=q;exact gone J3 λ s4 J4=>⟨_,H3,J4,q⟩
   | cont=>obtain⟨σ3,H3,J3,q⟩:=q;exact gone J3 λ s4 J4=>⟨_,H3,J4,q⟩
   | ret u=>obtain⟨v,σ3,H3,J3,r,q⟩:=q;exact gone J3 λ s4 J4=>⟨v,_,H3,J4,r,q⟩
end
theorem aen(I:Inv X pins σ H s)(m:cX X.K H M)(e:M a=some (.exc C fs)) :
  (∃ ox od,W.InstAt s.heap a ox C od)/\(∀ w,fs.lookup f=some w->∃ v u ox od,aQ X.K H w v/\RelV v u/\W.InstAt s.heap a ox C (some od)/\W.lookIn f od=some (some u)):=by
 obtain⟨φ,dct,e1,e2,e3⟩:=m a _ e;obtain⟨vs,hx,_⟩:=e2 s.heap (I.hok a _ e1).1;rcases e3 with ⟨rfl,rfl⟩ | ⟨dx,o,l,rfl,e4,pr⟩
 ·exact⟨⟨_,none,hx,rfl,rfl,True.intro⟩,λ w z=>nomatch z⟩
 ·obtain⟨ho,mA,n1,r1⟩:=I.hok dx _ e4;refine⟨⟨_,some o,hx,rfl,rfl,ho⟩,λ w z=>?_⟩;have g:=fg f pr;rw[z] at g;obtain⟨v,eb,rb⟩:=OR.some_of g;obtain⟨u,hu,ru⟩:=pA.some_of (v:=v) (o:=mA f) (by rw[<- eb];exact r1 f);obtain⟨od,g1,g2⟩:=uo n1;exact⟨v,u,_,od,rb,ru,⟨hx,rfl,rfl,g1⟩,by rw[g2,hu]⟩
def xa(cs:List Addr)(td:TD)(f:Str)(τ:DS)(M:MH)(Q:QD):Prop:=td τ M λ w M1=>∃ a C fs v,w=.m a/\M1 a=some (.exc C fs)/\C∈cs/\fs.lookup f=some v/\Q v M1
theorem agr(hc:∀ C∈cs,XC X.K C/\cN X.K C f)(he:PD X o td)(hb:attributeBase o f X.env (eval o X.env)=eval o X.env:=by rfl):PD X (.Attribute o f pos) (xa cs td f):=by
 intro pins s σ H Q I h;obtain⟨τ,M,Qd,A,h,k⟩:=h;refine abd hb (thn (he pins s σ H (λ x H1=>∃ w M1,Kp H H1/\aQ X.K H1 w x/\cX X.K H1 M1/\∃ a C fs v,w=.m a/\M1 a=some (.exc C fs)/\C∈cs/\fs.lookup f=some v/\Qd v M1) I ⟨τ,M,_,A,h,λ v H1 w M1 kp r m q=>⟨w,M1,kp,r,m,q⟩⟩)
  λ u s1 ⟨x,H1,I1,rx,w,M1,kp,r1,m1,a,C,fs,v,ew,hma,hC,hl,q⟩=>?_)
 subst ew;cases (show x=.ref a from r1);obtain rfl:u=Value.ref a:=rx;obtain⟨v',u',ox,od,rv,ru,J,lo⟩:=(aen (f:=f) I1 m1 hma).2 v hl;obtain⟨xc,na⟩:=hc C hC;obtain⟨cd,hcd,hd,_⟩:=gP xc.x;refine amP I1.kIn xc J (W.findObj_own (by unfold W.hasDictIn;rw[hcd];exact hd) na rfl lo) (vt ru) ?_;exact⟨v',H1,I1.tok _,ru,k v' H1 v M1 kp rv m1 q⟩
def aix:V->Value
 | .ref a=>.ref a
 | .ty n=>.type n
 | _=>.none
def acF:V->Bool
 | .ref _=>true
 | .ty _=>true
 | _=>false
theorem abn:∀ {v:V} {u:Value},acF v=true->RelV v u->u=aix v
 | .ref _,_,_,r=>r
 | .ty _,_,_,r=>r
 | .non,_,h,_=>nomatch h
 | .bl _,_,h,_=>nomatch h
 | .int _,_,h,_=>nomatch h
 | .str _,_,h,_=>nomatch h
 | .byt _,_,h,_=>nomatch h
 | .flt _,_,h,_=>nomatch h
theorem xT:∀ {cs:List V} {us:List Value},(∀ c∈cs,acF c=true)->Vals cs us->us=cs.map aix
 | _,_,_,.nil=>rfl
 | _,_,h,.cons r t=>by rw[abn (h _ (by simp)) r,xT (λ c hc=>h c (by simp[hc])) t];rfl
def IsC(H:Hp)(v:V)(cs:List V):Prop:=cs=[v]\/∃ t,v=.ref t/\H t=some (.tup cs)
def amR(K:FG)(xs:List V)(H:Hp)(Q:VK):Prop:=∃ a C c cs b M fs,xs=[.ref a,c]/\cX K H M/\M a=some (.exc C fs)/\IsC H c cs/\(∀ c∈cs,acF c=true)/\XC K C/\W.kitAny K (.ref C) (cs.map aix)=some b/\Q (.bl b) H
theorem adU:fZ X (.builtin "isinstance") (amR X.K):=by
 intro pins s σ H xs us Q I r h;obtain⟨a,C,c,cs,b,M,fs,rfl,m,e,hc,hcs,xc,kb,q⟩:=h;obtain⟨u,w,rfl,r1,r2⟩:=vals2 r;cases (show u=Value.ref a from r1);obtain⟨⟨ox,od,J⟩,_⟩:=aen (f:= "") I m e;have fin:∀ tk,EP X pins σ Q (.bool b) {s with toks:=tk}:=λ tk=>⟨.bl _,H,I.tok _,rfl,q⟩;rcases hc with rfl | ⟨t,rfl,ht⟩
 ·have e1:=abn (hcs c (by simp)) r2;subst e1;have e2:W.kitOne X.K (.ref C) (aix c)=some b:=by
   simp only[List.map_cons,List.map_nil,W.kitAny] at kb
   split at kb
   ·rename_i z;rw[z,kb]
   ·rename_i z;rw[z,kb]
   ·cases kb
  exact W.kia_one (aew xc) I.kIn J e2 (λ z=>nomatch z) fin
 ·cases (show w=Value.ref t from r2);obtain⟨_,its,rv,⟨o,g1,g2,_,n,g3⟩⟩:=I.hok t _ ht;have e1:=xT hcs rv;subst e1;obtain⟨c1,c2,c3,c4⟩:=o;cases g2;cases g3;exact W.kia_tup (aew xc) I.kIn J g1 kb (λ z=>nomatch z) fin
def ae7(tab:Addr->Option Bool)(td:TD)(τ:DS)(M:MH)(Q:QD):Prop:=td τ M λ w M1=>∃ a C fs b,w=.m a/\M1 a=some (.exc C fs)/\tab C=some b/\Q (.d (.bool b)) M1
def CTm(cs:List V)(tc:TE):Prop:=∀ σ H (Q:VK),(∀ v H',(∀ b u,H b=some u->H' b=some u)->IsC H' v cs->Q v H')->tc σ H Q
theorem ahk(v:V):CTm [v] (tC v):=λ σ H Q h=>h v H (λ _ _ z=>z) (.inl rfl)
theorem ajC(ht:∀ C b,tab C=some b->XC X.K C/\W.kitAny X.K (.ref C) (cs.map aix)=some b)(hcs:(cs.all acF)=true)(hg:Gl X "isinstance")(hm:X.mg "isinstance" = none)(ho:PD X o td)(hc:PE X ce tc)(ct:CTm cs tc)
  (h1:eF o=false:=by rfl)(h2:eF ce=false:=by rfl):PD X (.Call (.Name "isinstance" p) [o,ce] [] pos) (ae7 tab td):=by
 refine ie (rJ adU hg hm cy (rF ho (rF hc aav (bV ce [] X.env h2)) (bV o [ce] X.env h1)) (by decide) (by decide) (bV o [ce] X.env h1) (cI pos X.env [ce] (by simp[h2]))) λ σ H Q h=>?_;obtain⟨τ,M,Qd,A,h,k⟩:=h;refine⟨τ,M,_,A,h,λ v H1 w M1 kp r m hq89=>?_⟩;obtain⟨a,C,fs,b,ew,hma,htb,q⟩:=hq89;subst ew;cases (show v=.ref a from r);refine ct σ H1 _ λ c H2 st ic=>?_;obtain⟨xc,kb⟩:=ht C b htb;have kp2:Kp H1 H2:=⟨λ b xs z=>st b _ z,λ b o u z=>st b _ z⟩;have m2:cX X.K H2 M1:=λ b mo z=>(m b mo z).keep kp2 λ u y=>st b u y;exact⟨a,C,c,cs,b,M1,fs,rfl,m2,hma,ic,λ c hc=>List.all_eq_true.mp hcs c hc,xc,kb,k (.bl b) H2 (.d (.bool b)) M1 (kp.trans kp2) rfl m2 q⟩
structure Xi(K:FG)(C:Addr)(qual:Str)(st:Stmt)(ps:List Str)(f:Addr)(fd:FuncData):Prop where
 fn:Fun K "__init__" qual st f fd
 xm:Xm K C f
 bd:L2.Binds K fd ps []
theorem alq{K:FG}{C:Addr}{qual:Str}{st:Stmt}{ps:List Str}{f:Addr}{oc:Value}{od an:Option Addr}{osl:Array (Option Value)}{kV doc pm cdv ct:Value}(xc:XC K C)(a:W.findIn K (.ref C) "__init__" = some (some (.ref f)))(i:W.typeIn K (.ref f)=some (.type "function"))
  (l:K.lookup f=some ⟨oc,od,.func (W.fnOf "__init__" qual (bh st) (aY st) (ak st) .none kV doc pm an cdv ct),osl⟩)(c:W.codeIn K cdv qual=true)(k:W.keepIn K (.ref f)=true)(m:xmk K C=true)(ty:W.typeIn K (.ref C)=some (.type "type"))(kc:W.keepIn K (.ref C)=true)
  (b:∀ (kV doc pm:Value) (an:Option Addr) (cdv ct:Value) (us:List Value),us.length=ps.length->bindArgs (W.fnOf "__init__" qual (bh st) (aY st) (ak st) .none kV doc pm an cdv ct) ⟨us,[]⟩=pure (ps.zip us)) :
  Xi K C qual st ps f (W.fnOf "__init__" qual (bh st) (aY st) (ak st) .none kV doc pm an cdv ct):=
 have F:=sR (st:=st) l c k
 ⟨F,⟨xc,m,ty,a,i,kc⟩,F.binds b⟩
def zo(l:List (Addr×Bool))(C:Addr):Option Bool:=l.lookup C
inductive gr(P:Addr->Bool->Prop):List (Addr×Bool)->Prop
 | nil:gr P []
 | cons {a:Addr} {b:Bool} {l:List (Addr×Bool)}:P a b->gr P l->gr P ((a,b)::l)
theorem gr.of(h:gr P l):∀ C b,zo l C=some b->P C b:=by
 induction h with
 | nil=>intro C b z;cases z
 | @cons a b l p _ ih =>
  intro C b' z;unfold zo at z ih;rw[List.lookup_cons] at z
  split at z
  ·rename_i e
   cases z;rw[beq_iff_eq.mp e];exact p
  ·exact ih C b' z
inductive oX(P:Addr->Prop):List Addr->Prop
 | nil:oX P []
 | cons {a:Addr} {l:List Addr}:P a->oX P l->oX P (a::l)
theorem oX.of(h:oX P l):∀ C∈l,P C:=by
 induction h with
 | nil=>intro C z;cases z
 | cons p _ ih =>
  intro C z;rcases List.mem_cons.mp z with e | e
  ·rw[e];exact p
  ·exact ih C e
theorem yk:Lk X (λ _ _ _=>False):=λ _ _ _ _ _ _ _ _ _ _ h=>h.elim
section
variable {X:Cx}{pos p p' apos cpos np hpos:Pos}{k:Nat}{f C:Addr}{fd:FuncData}{ps fs:List Str}{sp:SpX}{x m n:Str}{e o:Expr}{es:List Expr}{t:TAd}{td:TD}{E:XE}
theorem amk(L:Lk X E)(F:bK X.prog X.w X.K X.mg X.base (CXE X.prog X.w) k f fd ps (eN X.K sp))(hr:eO k X.A)(hg:Gl X x)(hm:X.mg x=some (.ref f))(hk:W.keepIn X.K (.ref f)=true)(hb:L2.Binds X.K fd ps [])
  (ha:Jd (PAd X (e::es) t))(hdb:ND x:=by decide)(h1:eF e=false:=by rfl)(h2:(es.all λ e=>!eF e)=true:=by rfl) :
  Jd (PD X (.Call (.Name x p) (e::es) [] pos) (aem sp E t)):=⟨have ha:=ha.h;by
 intro pins s σ H Q I h;obtain⟨τ,M,Qd,A,h,k⟩:=h;refine wpAny_Call_Name_kw (iL I hg hm ?_ hdb);refine W.callWith_K (h₀:=X.base) I.ok.mod.kin hk (thn (ha pos pins s σ H (λ vs H1=>∃ ws M1,Kp H H1/\bu X.K H1 ws vs/\cX X.K H1 M1/\sp ws M1 Qd λ a M'=>E a τ M') I ⟨τ,M,_,A,h,λ vs H1 ws M1 kp r m q=>⟨ws,M1,kp,r,m,q⟩⟩) λ us s1 ⟨vs,H1,I1,r,ws,M1,kp,rw,m1,q⟩=>⟨I1.kIn,?_⟩) (bV e es X.env h1) (cI pos X.env es h2);refine abc (E:=λ v _ H'=>∃ a M',v=.ref a/\Kp H1 H'/\cX X.K H' M'/\E a τ M') F hr hb I1 r ⟨ws,M1,Qd,_,rw,m1,q,kgo k kp,λ a H' M' kp' m' e'=>⟨a,M',rfl,kp',m',e'⟩⟩ λ u s' hx=>rC L I1 (A.go kp m1) (λ v H' z=>z) hx⟩
theorem agR(L:Lk X E)(he:Jd (PD X o td))(c:Cls X.K C)(hm:Meth X.K C m f)(F:bK X.prog X.w X.K X.mg X.base (CXE X.prog X.w) k f fd ps (eN X.K sp))(hr:eO k X.A)(hb:L2.Binds X.K fd ps [])(ha:Jd (PAd X (e::es) t))
  (ht:eval (.Call (.Attribute o m apos) (e::es) [] pos) X.env=(do
   let ov <- eval o X.env
   standAt apos.atName
   let (f,first) <- holding [ov] (getMethod ov m pl)
   callWith pos f first (backTo pos (starEach (e::es) X.env)) (backToKw pos (keywordEach [] X.env))):=by rfl)
  (h1:eF e=false:=by rfl)(h2:(es.all λ e=>!eF e)=true:=by rfl):Jd (PD X (.Call (.Attribute o m apos) (e::es) [] pos) (lE C m sp E td t)):=⟨have he:=he.h;have ha:=ha.h;by
 intro pins s σ H Q I h;obtain⟨τ,M,Qd,A,h,k⟩:=h;refine W.methodCall_KW (pl:=pl) (thn (he pins s σ H (λ x H1=>∃ w M1,Kp H H1/\aQ X.K H1 w x/\cX X.K H1 M1/\∃ a fs,w=.m a/\M1 a=some (.ins C fs)/\fs.lookup m=none/\t τ M1 λ ws M2=>sp (w::ws) M2 Qd λ a M'=>E a τ M') I ⟨τ,M,_,A,h,λ v H1 w M1 kp r m q=>⟨w,M1,kp,r,m,q⟩⟩)
  λ u s1 ⟨y,H1,I1,ry,w,M1,kp1,r1,m1,a,fs,ew,hma,hl,q1⟩=>?_) ht
 subst ew;obtain⟨dx,l,e1,pr⟩:=m1 _ _ hma;cases (show y=.ref a from r1);obtain rfl:u=Value.ref a:=ry;have g:=fg m pr;rw[hl] at g;refine gB I1 e1 c hm (OR.none_of g) ?_;refine W.callWith_K (first:=[.ref a]) (h₀:=X.base) I.ok.mod.kin hm.kp (thn (ha pos pins s1 σ H1 (λ vs H2=>∃ ws M2,Kp H1 H2/\bu X.K H2 ws vs/\cX X.K H2 M2/\sp (.m a::ws) M2 Qd λ a M'=>E a τ M') I1 ⟨τ,M1,_,A.go kp1 m1,q1,λ vs H2 ws M2 kp r m q=>⟨ws,M2,kp,r,m,q⟩⟩)
  λ us s2 ⟨vs,H2,I2,r,ws,M2,kp2,rw,m2,q⟩=>⟨I2.kIn,?_⟩) (bV e es X.env h1) (cI pos X.env es h2)
 exact abc (us:=.ref a::us) (vs:=.ref a::vs) (E:=λ v _ H'=>∃ a M',v=.ref a/\Kp H2 H'/\cX X.K H' M'/\E a τ M') F hr hb I2 (.cons rfl r) ⟨.m a::ws,M2,Qd,_,.cons rfl rw,m2,q,kgo (kgo k kp1) kp2,λ a H' M' kp' m' e'=>⟨a,M',rfl,kp',m',e'⟩⟩ λ u s' hx=>rC L I2 ((A.go kp1 m1).go kp2 m2) (λ v H' z=>z) hx⟩
theorem dB(L:Lk X E)(c:Xm X.K C f)(F:bK X.prog X.w X.K X.mg X.base CX0 k f fd ps (k8 C fs))(hr:eO (k+1) X.A)(hg:Gl X x)(hm:X.mg x=some (.ref C))(hb:L2.Binds X.K fd ps [])(ha:Jd (PAd X (e::es) t))
  (hdb:ND x:=by decide)(h1:eF e=false:=by rfl)(h2:(es.all λ e=>!eF e)=true:=by rfl):Jd (PSd X (.Raise (some (.Call (.Name x p) (e::es) [] cpos)) none pos) (iE C fs E t)):=⟨have ha:=ha.h;by
 intro pins s σ H D I h;obtain⟨τ,M,Dd,A,h,_⟩:=h;rw[arm_exec_Raise];refine wb0 (wpAny_standAt (ae3 (K:=X.K) hr.hd (wb0 ?_)));refine wpAny_Call_Name_kw (iL I hg hm ?_ hdb);refine W.callWith_K (h₀:=X.base) I.ok.mod.kin c.kp (thn (ha cpos pins s σ H (λ vs H1=>∃ ws M1,Kp H H1/\bu X.K H1 ws vs/\cX X.K H1 M1/\ws.length=fs.length/\ws.length<=1000/\∀ a,M1 a=none->E a τ (bC M1 a (.exc C (fs.zip ws)))) I
  ⟨τ,M,_,A,h,λ vs H1 ws M1 kp r m q=>⟨ws,M1,kp,r,m,q⟩⟩) λ us s1 ⟨vs,H1,I1,r,ws,M1,kp,rw1,m1,hl,hz,q⟩=>⟨I1.kIn,?_⟩) (bV e es X.env h1) (cI cpos X.env es h2)
 have hlv:vs.length=fs.length:=by rw[<- rw1.length];exact hl
 have e0:H1 (s1.heap.objs.size+1)=none:=I1.hok.fresh (Nat.le_succ _);have J:Inv X pins σ (upd H1 (s1.heap.objs.size+1) (.ext (XV (s1.heap.objs.size+1) C none #[.ref s1.heap.objs.size,.none,.none,.none,.bool false,.none]))) {s1 with heap:=(s1.heap.push {cls:=.type "tuple",data:=.seq us.toArray}).push (zK C s1.heap.objs.size)}:=by
  have I2:=I1.kept (t':=s1.toks) (h':=s1.heap.push {cls:=.type "tuple",data:=.seq us.toArray}) λ b u z=>Heap.get?_push_of_some _ z;refine I2.laid (t':=s1.toks) (λ b u z=>Heap.get?_push_of_some _ z) (by show(s1.heap.push _).objs.size<=_;rw[Heap.size_push];exact lr0 _) (ahQ ?_);have:=Heap.get?_push_size (s1.heap.push {cls:=.type "tuple",data:=.seq us.toArray}) (o:=zK C s1.heap.objs.size) rfl
  rwa[Heap.size_push] at this
 have r2:Vals (V.ref (s1.heap.objs.size+1)::vs) (Value.ref (s1.heap.objs.size+1)::us):=.cons rfl r;refine alz (h:=s1.heap) (g:=s1.gens) (d:=s1.drawn) (t:=s1.toks) (os:=s1.os) I1.kIn c.xc c.xm c.hi c.hf (by show us.length<=_;have:=r.length;have:=rw1.length;have:=s16;omega) ?_;have hq:=F.len (V.ref (s1.heap.objs.size+1)::vs) (upd H1 (s1.heap.objs.size+1) (.ext (XV (s1.heap.objs.size+1) C none #[.ref s1.heap.objs.size,.none,.none,.none,.bool false,.none])))
  (λ v H3=>v=.non/\∃ dx,(upd H1 (s1.heap.objs.size+1) (.ext (XV (s1.heap.objs.size+1) C none #[.ref s1.heap.objs.size,.none,.none,.none,.bool false,.none]))) dx=none/\dx≠s1.heap.objs.size+1 /\
   H3=upd (upd (upd H1 (s1.heap.objs.size+1) (.ext (XV (s1.heap.objs.size+1) C none #[.ref s1.heap.objs.size,.none,.none,.none,.bool false,.none]))) dx (.ext (DX dx (fs.zip vs)))) (s1.heap.objs.size+1) (.ext (XV (s1.heap.objs.size+1) C (some dx) #[.ref s1.heap.objs.size,.none,.none,.none,.bool false,.none]))) E0
  ⟨_,vs,_,rfl,hlv,aA,λ dx hd ne=>⟨rfl,dx,hd,ne,rfl⟩⟩
 have bnd:=hb {s1 with heap:=(s1.heap.push {cls:=.type "tuple",data:=.seq us.toArray}).push (zK C s1.heap.objs.size)} (Value.ref (s1.heap.objs.size+1)::us) J.kIn (by rw[List.append_nil,<- r2.length];exact hq);rw[List.append_nil] at bnd;refine wpAny_call (codeAny_mono (F.run _ X.stack {s1 with heap:=(s1.heap.push {cls:=.type "tuple",data:=.seq us.toArray}).push (zK C s1.heap.objs.size)} _ ⟨Value.ref (s1.heap.objs.size+1)::us,[]⟩ _ _ (λ v H3=>v=.non/\∃ dx,(upd H1 (s1.heap.objs.size+1) (.ext (XV (s1.heap.objs.size+1) C none #[.ref s1.heap.objs.size,.none,.none,.none,.bool false,.none]))) dx=none/\dx≠s1.heap.objs.size+1 /\
   H3=upd (upd (upd H1 (s1.heap.objs.size+1) (.ext (XV (s1.heap.objs.size+1) C none #[.ref s1.heap.objs.size,.none,.none,.none,.bool false,.none]))) dx (.ext (DX dx (fs.zip vs)))) (s1.heap.objs.size+1) (.ext (XV (s1.heap.objs.size+1) C (some dx) #[.ref s1.heap.objs.size,.none,.none,.none,.bool false,.none]))) E0
  (hr.make C us []) (J.afU.make C us []) bnd r2 ⟨_,vs,_,rfl,hlv,aA,λ dx hd ne=>⟨rfl,dx,hd,ne,rfl⟩⟩) λ rr s' hq'=>?_)
 cases rr with
 | error e=>exact False.elim hq'
 | ok fl =>
  cases fl with
  | next=>exact False.elim hq'
  | brk=>exact False.elim hq'
  | cont=>exact False.elim hq'
  | ret u =>
   obtain⟨v,H3,I3,rv,ev,dx,hd,ne,eH⟩:=J.after hq';subst ev;refine⟨rv,wb0 (wpAny_standAt (wp0 ?_))⟩;generalize ha0:s1.heap.objs.size+1=a at *;generalize hu0:(#[.ref s1.heap.objs.size,.none,.none,.none,.bool false,.none]:Array Value)=u0 at *;have e3a:H3 a=some (.ext (XV a C (some dx) u0)):=by rw[eH,aA]
   have e3d:H3 dx=some (.ext (DX dx (fs.zip vs))):=by rw[eH,aB ne,aA]
   have oa:s'.heap.get? a=some (vA C (some dx) u0):=(I3.hok a _ e3a).1;obtain⟨⟨mA,n1,r1,w1⟩,⟨od,hod⟩,_⟩:=I3.hok dx _ e3d;have I4:=I3.write (x:=dx) (e:=dx) (o:=.frz od (.xd (fs.zip vs))) (h':=s'.heap) (t':=s'.toks) (by rw[e3d];exact True.intro) (.inl rfl) (λ b q _ z=>z) ⟨od,hod⟩ ⟨hod,mA,n1,r1⟩;have e4a:(upd H3 dx (.frz od (.xd (fs.zip vs)))) a=some (.ext (XV a C (some dx) u0)):=by rw[aB (Ne.symm ne)];exact e3a
   have I5:=I4.write (x:=a) (e:=a) (o:=.ext (XF a C (some dx) true)) (h':=s'.heap) (t':=s'.toks) (by rw[e4a];exact True.intro) (.inl rfl) (λ b q _ z=>z) ⟨_,oa⟩ (afZ oa λ _=>by rw[<- hu0];rfl);have hdx:H1 dx=none:=by rw[aB ne] at hd;exact hd
   have at5:∀ b,b≠a->b≠dx->(upd (upd H3 dx (.frz od (.xd (fs.zip vs)))) a (.ext (XF a C (some dx) true))) b=H1 b:=λ b z1 z2=>by rw[aB z1,aB z2,eH,aB z1,aB z2,aB z1]
   have st:∀ b u,H1 b=some u->(upd (upd H3 dx (.frz od (.xd (fs.zip vs)))) a (.ext (XF a C (some dx) true))) b=some u:=λ b u z=>by rw[at5 b (λ y=>by rw[y,e0] at z;cases z) (λ y=>by rw[y,hdx] at z;cases z)];exact z
   have k5:Kp H1 (upd (upd H3 dx (.frz od (.xd (fs.zip vs)))) a (.ext (XF a C (some dx) true))):=⟨λ b xs z=>st b _ z,λ b o u z=>st b _ z⟩;have m5:cX X.K (upd (upd H3 dx (.frz od (.xd (fs.zip vs)))) a (.ext (XF a C (some dx) true))) (bC M1 a (.exc C (fs.zip ws))):=λ b mo z=>by
    by_cases hb:b=a
    ·subst hb;rw[ao] at z;cases z;exact⟨_,some dx,aA,λ h ⟨vs,y,c⟩=>⟨vs,y,λ _=>c rfl⟩,.inr ⟨dx,od,fs.zip vs,rfl,by rw[aB ne,aA],yf fs (rw1.keep k5)⟩⟩
    ·rw[ar hb] at z;exact(m1 b mo z).keep k5 λ u y=>st b u y
   refine⟨a,C,some dx,u0,rfl,I5.kIn,c.xc.x,c.ty,oa,by rw[<- hu0];rfl,?_⟩;exact L pins σ _ s' a τ _ I5 ⟨C,some dx,u0,true,aA,oa,.inl (by rw[<- hu0];rfl),λ _=>by rw[<- hu0];rfl⟩ (A.go (kp.trans k5) m5) (q a (m1.free e0))⟩
variable {body suite:List Stmt}{b0:Stmt}{hs:List ExceptHandler}{h0:ExceptHandler}{tb:XE->TSd}{th rest:Addr->TSd}{ts:TSd}
theorem yr(hst:X.stack=X.env::X.outer)(hf:X.env.frame=some X.env.locals)
  (hb:∀ (H0:Hp) (pn:PN) (xe:VP) (E:XE),Lk (X.qB H0 pn xe) E->PassesOwn (model X.prog X.w) X.A X.env xe->Jd (pU (X.qB H0 pn xe) body (tb E)))(hh:Jd (PHd X (h0::hs) th)):Jd (PSd X (.Try body (h0::hs) [] [] pos) (aj5 tb th)):=
 ⟨D.agy hst hf (λ H0 pn xe E l p=>(hb H0 pn xe E l p).h) hh.h⟩
theorem yo:Jd (PHd X hs (λ _ _ _ _=>False)):=⟨λ pins σ H s a D I air ⟨τ,M,Dd,_,h,_⟩=>h.elim⟩
theorem aeL(hg:Gl X x)(hm:X.mg x=some (.ref Dc))(ht:gr (λ C b=>W.exmOne X.K (.ref C) (.ref Dc)=some b) l)(hN:X.N.Nodup)(hi:X.N[i]? =some n)(hl:X.env.scope.names.lookup n=some .local)(hk:X.env.scope.kind=.function)
  (hsu:∀ a,Jd (pU (X.jh a) (b0::suite) ts))(hr:Jd (PHd X hs rest))(hdb:ND x:=by decide):Jd (PHd X (.ExceptHandler (some (.Name x np)) (some n) (b0::suite) hpos::hs) (acG (zo l) i ts rest)):=
 ⟨D.ak9 hg hm ht.of hN hi hl hk (λ a=>(hsu a).h) hr.h hdb⟩
theorem kI{f:Str}{cs:List Addr}(hc:oX (λ C=>XC X.K C/\cN X.K C f) cs)(he:Jd (PD X o td))(hb:attributeBase o f X.env (eval o X.env)=eval o X.env:=by rfl):Jd (PD X (.Attribute o f pos) (xa cs td f)):=⟨D.agr hc.of he.h hb⟩
theorem ja(hm:X.mg "isinstance" = none)(ht:gr (λ C b=>XC X.K C/\W.kitAny X.K (.ref C) [.ref Dc]=some b) l)(hg:Gl X x)(hx:X.mg x=some (.ref Dc))(ho:Jd (PD X o td))(hgi:Gl X "isinstance":= by rfl)
  (hdb:ND x:=by decide)(h1:eF o=false:=by rfl):Jd (PD X (.Call (.Name "isinstance" p) [o,.Name x p'] [] pos) (ae7 (zo l) td)):=
 ⟨D.ajC (cs:=[.ref Dc]) ht.of rfl hgi hm ho.h (jw (v:=.ref Dc) hg hx rfl hdb) (ahk _) h1 rfl⟩
end
section
variable {X:Cx}{K:FG}
end
section
variable {X:Cx}{K:FG}
def uU(d:PyData)(ds:List PyData):Bool:=wc d&&wc (.list ds)
def inA(d:PyData)(ds:List PyData):Bool:=ds.any λ y=>PyData.eqv y d
theorem nI(hr:d4 k A)(h:SeqAt.shaped d=true):A.units+1+min (PyData.depthAll ds) d.depth<cLine:=by have h1:=SeqAt.depth_of_shaped h;have h2:min (PyData.depthAll ds) d.depth<=d.depth:=Nat.min_le_right _ _;have:=hr.un;omega
theorem aeF(hr:d4 k X.A):OpR X (compareOp .In) (λ x y H Q=>∃ d ds,md X.K H d x/\(md X.K H (.list ds) y\/aN X.K H (.tuple ds) y)/\uU d ds=true/\Q (.bl (inA d ds)) H):=by
 intro pins s σ H x y v u Q I rx ry h;obtain⟨d,ds,h1,h2,o,q⟩:=h;simp only[uU,wc,ae00,Bool.not_eq_true'] at o;obtain⟨⟨o1,o2⟩,o3,o4⟩:=o;obtain⟨as,r1⟩:=eB I d h1 rx o2;have c3:=SeqAt.canLay_of_shaped o3;rcases h2 with h2 | h2
 ·obtain⟨bs,r2⟩:=eB I (.list ds) h2 ry o4;exact SeqAt.in_list_reads r2 r1 c3 (SeqAt.canLay_of_shaped o1) (nI hr o1) ⟨.bl _,H,I,rfl,q⟩
 ·obtain⟨bs,r2⟩:=eP I (.tuple ds) h2 ry o4;exact SeqAt.in_tuple_reads r2 r1 c3 (SeqAt.canLay_of_shaped o1) (nI hr o1) ⟨.bl _,H,I,rfl,q⟩
theorem ab3(hr:d4 k X.A):OpR X (compareOp .NotIn) (λ x y H Q=>∃ d ds,md X.K H d x/\(md X.K H (.list ds) y\/aN X.K H (.tuple ds) y)/\uU d ds=true/\Q (.bl (!inA d ds)) H):=by
 intro pins s σ H x y v u Q I rx ry h;obtain⟨d,ds,h1,h2,o,q⟩:=h;simp only[uU,wc,ae00,Bool.not_eq_true'] at o;obtain⟨⟨o1,o2⟩,o3,o4⟩:=o;obtain⟨as,r1⟩:=eB I d h1 rx o2;have c3:=SeqAt.canLay_of_shaped o3;rcases h2 with h2 | h2
 ·obtain⟨bs,r2⟩:=eB I (.list ds) h2 ry o4;exact SeqAt.notIn_list_reads r2 r1 c3 (SeqAt.canLay_of_shaped o1) (nI hr o1) ⟨.bl _,H,I,rfl,q⟩
 ·obtain⟨bs,r2⟩:=eP I (.tuple ds) h2 ry o4;exact SeqAt.notIn_tuple_reads r2 r1 c3 (SeqAt.canLay_of_shaped o1) (nI hr o1) ⟨.bl _,H,I,rfl,q⟩
def ab8(neg:Bool)(w w':W)(M:MH)(Q:QD):Prop:=∃ d ds,zM M w d/\(zM M w' (.list ds)\/w'=.d (.tuple ds))/\uU d ds=true/\Q (.d (.bool (xor neg (inA d ds)))) M
theorem abl:OpD K (λ x y H Q=>∃ d ds,md K H d x/\(md K H (.list ds) y\/aN K H (.tuple ds) y)/\uU d ds=true/\Q (.bl (inA d ds)) H) (ab8 false):=by
 intro x y H w w' M Qd Q r1 r2 m ⟨d,ds,g1,g2,o,q⟩ k;refine⟨d,ds,g1.sound r1 m,?_,o,k _ H (.d (.bool _)) M (Kp.refl H) (by simp[aQ,aN]) m q⟩;rcases g2 with g2 | rfl
 ·exact .inl (g2.sound r2 m)
 ·exact .inr r2
theorem zH:OpD K (λ x y H Q=>∃ d ds,md K H d x/\(md K H (.list ds) y\/aN K H (.tuple ds) y)/\uU d ds=true/\Q (.bl (!inA d ds)) H) (ab8 true):=by
 intro x y H w w' M Qd Q r1 r2 m ⟨d,ds,g1,g2,o,q⟩ k;refine⟨d,ds,g1.sound r1 m,?_,o,k _ H (.d (.bool (!inA d ds))) M (Kp.refl H) (by simp[aQ,aN]) m (by simpa using q)⟩;rcases g2 with g2 | rfl
 ·exact .inl (g2.sound r2 m)
 ·exact .inr r2
end
def qh(v:Value):PyData->Bool
 | .str z=>match v with
  | .str x _=>decide (x=z)
  | _=>false
 | .int i=>match v with
  | .int j _=>decide (j=i)
  | _=>false
 | _=>false
def mJ:List Value->List PyData->Bool
 | [],[]=>true
 | v::vs,d::ds=>qh v d&&mJ vs ds
 | _,_=>false
def w5(K:FG)(v:Value):PyData->Bool
 | .tuple ds=>match v with
  | .ref a=>match K.lookup a with
   | some o=>(match o.cls with
    | .type n=>decide (n = "tuple")
    | _=>false)&&o.dict.isNone&&(match o.data with
    | .seq its _=>decide (its.size<=100)&&mJ its.toList ds
    | _=>false)
   | none=>false
  | _=>false
 | d=>qh v d
theorem yg(h:qh v d=true):∃ x,RelV x v/\∀ K H,aN K H d x:=by
 cases d with
 | str z =>
  cases v with
  | str x t =>
   have e:x=z:=of_decide_eq_true h;subst e;exact⟨.str x,⟨t,rfl⟩,λ K H=>by simp[aN]⟩
  | _=>cases h
 | int i =>
  cases v with
  | int j t =>
   have e:j=i:=of_decide_eq_true h;subst e;exact⟨.int j,⟨t,rfl⟩,λ K H=>by simp[aN]⟩
  | _=>cases h
 | _=>cases h
theorem vf:∀ {vs:List Value} {ds:List PyData},mJ vs ds=true->∃ xs,Vals xs vs/\∀ K H,bJ K H ds xs
 | [],[],_=>⟨[],.nil,λ K H=>by simp[bJ]⟩
 | v::vs,d::ds,h=>by simp only[mJ,ae00] at h;obtain⟨x,h1,h2⟩:=yg h.1;obtain⟨xs,h3,h4⟩:=vf h.2;exact⟨x::xs,.cons h1 h3,λ K H=>by simp only[bJ];exact⟨x,xs,rfl,h2 K H,h4 K H⟩⟩
 | [],_::_,h=>by cases h
 | _::_,[],h=>by cases h
theorem aad{K:FG}{v:Value}{d:PyData}(h:w5 K v d=true):∃ x,RelV x v/\∀ H,aN K H d x:=by
 have atom:qh v d=true->∃ x,RelV x v/\∀ H,aN K H d x:=λ h=>by obtain⟨x,h1,h2⟩:=yg h;exact⟨x,h1,h2 K⟩
 cases d with
 | tuple ds =>
  cases v with
  | ref a =>
   simp only[w5] at h;cases e:K.lookup a with
   | none=>rw[e] at h;cases h
   | some o =>
    rw[e] at h;simp only[ae00] at h;obtain⟨⟨h1,h0⟩,h2⟩:=h;have hd:o.dict=none:=by simpa using h0
    have hc:o.cls=.type "tuple":= by
     cases q:o.cls with
     | type n=>rw[q] at h1;rw[of_decide_eq_true h1]
     | _=>rw[q] at h1;cases h1
    cases q:o.data with
    | seq its n =>
     rw[q] at h2;simp only[ae00,decide_eq_true_eq] at h2;obtain⟨xs,h3,h4⟩:=vf h2.2;refine⟨.ref a,rfl,λ H=>?_⟩;simp only[aN];exact⟨a,xs,rfl,.inr ⟨o,its,n,e,hc,hd,q,few (by omega),h3⟩,h4 K H⟩
    | _=>rw[q] at h2;cases h2
  | _=>cases h
 | str z=>exact atom h
 | int i=>exact atom h
 | none=>exact atom h
 | bool b=>exact atom h
 | list ds=>exact atom h
 | dict kvs=>exact atom h
def qT(K:FG):List DictEntry->List (Str×PyData)->Bool
 | [],[]=>true
 | e::es,(k,d)::kvs=>qh e.key (.str k)&&w5 K e.val d&&qT K es kvs
 | _,_=>false
def agm(K:FG)(a:Addr)(kvs:List (Str×PyData)):Bool:=match K.lookup a with
 | some o=>(match o.cls with
  | .type n=>decide (n = "dict")
  | _=>false)&&o.dict.isNone&&decide (o.slots.size=0)&&(match o.data with
  | .dict es _=>qT K es.toList kvs
  | _=>false)
 | none=>false
def hashesOf(K:FG)(a:Addr):Option (List Int):=match K.lookup a with
 | some o=>match o.data with
  | .dict es _=>some (es.toList.map (·.hash))
  | _=>none
 | none=>none
structure jE(w:World)(K:FG)(a:Addr)(kvs:List (Str×PyData)):Prop where
 is:agm K a kvs=true
 hs:hashesOf K a=some (kvs.map λ p=>PyData.keyHash w.params p.1)
 nd:(kvs.map (·.1)).Nodup
 ns:(a==sysModules)=false
theorem xA{P:Program}{w:World}{K:FG}:∀ {es:List DictEntry} {kvs:List (Str×PyData)},qT K es kvs=true->es.map (·.hash)=kvs.map (λ p=>PyData.keyHash w.params p.1) ->
  ∃ (L:List (Key×V)) (vs:List (Key×Value)),KV L vs/\Pairs (bt P w) es vs/\(∀ e∈es,∃ k,(bt P w).is k e.key=true/\e.hash=(bt P w).hash k)/\vs.map (·.1)=kvs.map (λ p=>(.inr p.1:Key))/\Paired (λ(p:Str×PyData) (q:Key×V)=>q.1=.inr p.1/\∀ H,aN K H p.2 q.2) kvs L
 | [],[],_,_=>⟨[],[],.nil,.nil,(λ e he=>by cases he),rfl,.nil⟩
 | e::es,(k,d)::kvs,h,hh=>by
  simp only[qT,ae00] at h;obtain⟨⟨h1,h2⟩,h3⟩:=h;rw[List.map_cons,List.map_cons] at hh;obtain⟨hh1,hh2⟩:=List.cons.inj hh;obtain⟨L,vs,i1,i2,i3,i4,i5⟩:=xA (P:=P) (w:=w) h3 hh2;obtain⟨x,r1,r2⟩:=aad h2;have hk:pT (.inr k) e.key=true:=by
   cases q:e.key with
   | str y t =>
    rw[q] at h1;have ey:y=k:=of_decide_eq_true h1;subst ey;show Value.isStrOf y (.str y t)=true;simp[Value.isStrOf]
   | _=>rw[q] at h1;cases h1
  refine⟨(.inr k,x)::L,(.inr k,e.val)::vs,.cons ⟨rfl,r1⟩ i1,.cons hk rfl i2,λ e' he'=>?_,by rw[List.map_cons,i4];rfl,.cons ⟨rfl,r2⟩ i5⟩;rcases List.mem_cons.mp he' with rfl | he'
  ·exact⟨.inr k,hk,hh1⟩
  ·exact i3 e' he'
 | [],_::_,h,_=>by cases h
 | _::_,[],h,_=>by cases h
theorem jE.dd(D:jE X.w X.K a kvs)(I:Inv X pins σ H s):∃ (L:List (Key×V)) (vs:List (Key×Value)),KV L vs/\s.heap.DictOf (bt X.prog X.w) a vs/\Paired (λ(p:Str×PyData) (q:Key×V)=>q.1=.inr p.1/\∀ H,aN X.K H p.2 q.2) kvs L:=by
 have h:=D.is;have hs:=D.hs;unfold agm at h;unfold hashesOf at hs;cases e:X.K.lookup a with
 | none=>rw[e] at h;cases h
 | some o =>
  rw[e] at h hs;simp only[ae00] at h hs;obtain⟨⟨⟨h1,h2⟩,h3⟩,h4⟩:=h;have hc:o.cls=.type "dict":= by
   cases q:o.cls with
   | type n=>rw[q] at h1;rw[of_decide_eq_true h1]
   | _=>rw[q] at h1;cases h1
  have hd:o.dict=none:=by simpa using h2
  have hsl:o.slots = #[]:=Array.eq_empty_of_size_eq_zero (of_decide_eq_true h3);cases q:o.data with
  | dict es n =>
   rw[q] at h4 hs;obtain⟨L,vs,i1,i2,i3,i4,i5⟩:=xA (P:=X.prog) (w:=X.w) h4 (Option.some.inj hs);refine⟨L,vs,i1,⟨o,es,n,I.kIn a o e,⟨hc,hd,hsl⟩,q,λ e' he'=>i3 e' (by simpa using he'),i2,?_⟩,i5⟩;rw[i4,show(kvs.map λ p=>(.inr p.1:Key))=(kvs.map (·.1)).map Sum.inr from by simp];exact List.Pairwise.map Sum.inr (λ a b h z=>h (Sum.inr.inj z)) D.nd
  | _=>rw[q] at h4;cases h4
def gF(kvs:List (Str×PyData))(z:Str):Option PyData:=(kvs.find? λ p=>decide (p.1=z)).map (·.2)
theorem jQ{K:FG}(z:Str):∀ {kvs:List (Str×PyData)} {L:List (Key×V)},Paired (λ(p:Str×PyData) (q:Key×V)=>q.1=.inr p.1/\∀ H,aN K H p.2 q.2) kvs L->OR (λ d v=>∀ H,aN K H d v) (gF kvs z) (nO L (.inr z))
 | _,_,.nil=>True.intro
 | _,_,.cons (a:=p) (b:=q) (l₁:=t1) h t=>by
  obtain⟨h1,h2⟩:=h
  by_cases e:p.1=z
  ·rw[i8 (h1.trans (by rw[e])),show gF (p::t1) z=some p.2 by simp[gF,List.find?_cons,e]];exact h2
  ·rw[i7 (λ y=>e (Sum.inr.inj (h1.symm.trans y))),show gF (p::t1) z=gF t1 z by simp[gF,List.find?_cons,e]];exact jQ z t
def akM(K:FG)(kvs:List (Str×PyData))(ty:TE):TE:=λ σ H Q=>ty σ H λ y H1=>∃ z,y=.str z/\∀ v,(∀ H,aN K H ((gF kvs z).getD .none) v)->Q v H1
theorem afz(hg:Gl X x)(hm:X.mg x=some (.ref a))(kd:jE X.w X.K a kvs)(he:PE X e ty)(m:M1 X (.Name x p) "get" apos e cpos)(hd:ND x:=by decide):PE X (.Call (.Attribute (.Name x p) "get" apos) [e] [] cpos) (akM X.K kvs ty):=by
 intro pins s σ H Q I h;refine wpAny_Call_method m.base m.few m.line PySem.F.plainAttrs_dict PySem.F.slot_dict_get PySem.F.type_dict_get (thn (jw (v:=.ref a) hg hm rfl hd pins s σ H (λ v H'=>v=.ref a/\H'=H) I ⟨rfl,rfl⟩) λ u s1 hq90=>?_);obtain⟨x1,H1,I1,rx,ex,eH⟩:=hq90;subst ex eH;obtain rfl:u=Value.ref a:=rx;obtain⟨L,vs,rel,dd,pr⟩:=kd.dd I1;refine⟨dd.typeIs,λ b q=>?_,?_⟩
 ·cases q;obtain⟨ob,_,_,h1,h2,_⟩:=dd;exact⟨ob,h1,h2.2.1⟩
 rw[m.trees];refine Calls.callWith_builtin rfl (Calls.evalArgs_plain (Calls.spliced_cons (thn (he pins s1 σ H1 _ I1 h) λ iv s2 ⟨y,H2,I2,ry,z,ey,q2⟩=>Calls.spliced_nil ?_)));subst ey;obtain⟨L,vs,rel,dd,pr⟩:=kd.dd I2;have lv:=jQ z pr;refine call_meetsIn PySem.F.slot_dict_get dd.typeIs PySem.F.entry_dict_get (PySem.F.args_dict_get_2 _ _) (meets_dict_get (bt X.prog X.w) a (nU (k:=.inr z) ry) kd.ns) ⟨_,dd.mapOf,?_⟩;refine⟨(nO L (.inr z)).getD .non,H2,I2.tok _,(rel.val (.inr z)).getD rfl,q2 _ λ H=>?_⟩;cases q:gF kvs z with
 | none =>
  rw[q] at lv;rw[OR.none_of lv];simp[aN]
 | some d =>
  rw[q] at lv;obtain⟨b,eb,rb⟩:=OR.some_of lv;rw[eb];exact rb H
def agw(kvs:List (Str×PyData))(te:TD)(τ:DS)(M:MH)(Q:QD):Prop:=te τ M λ w M1=>∃ z,w=.d (.str z)/\Q (.d ((gF kvs z).getD .none)) M1
theorem acI(hg:Gl X x)(hm:X.mg x=some (.ref a))(kd:jE X.w X.K a kvs)(he:PD X e te)(m:M1 X (.Name x p) "get" apos e cpos:=by exact⟨rfl,rfl,rfl,rfl⟩)(hd:ND x:=by decide):PD X (.Call (.Attribute (.Name x p) "get" apos) [e] [] cpos) (agw kvs te):=
 ie (afz hg hm kd he m hd) λ σ H Q h=>by obtain⟨τ,M,Qd,A,h,k⟩:=h;refine⟨τ,M,_,A,h,λ y H1 w M1 kp r m1 hq91=>?_⟩;obtain⟨z,ew,q⟩:=hq91;subst ew;simp only[aQ,aN] at r;exact⟨z,r,λ v hv=>k _ H1 (.d _) M1 kp (hv H1) m1 q⟩
def amO(K:FG)(kvs:List (Str×PyData))(ty:TE):TE:=λ σ H Q=>ty σ H λ y H1=>∃ z d,y=.str z/\gF kvs z=some d/\∀ v,(∀ H,aN K H d v)->Q v H1
theorem ajK(hg:Gl X x)(hm:X.mg x=some (.ref a))(kd:jE X.w X.K a kvs)(he:PE X e ty)(hs:ad4 e)(hd:ND x:=by decide):PE X (.Subscript (.Name x p) e pos) (amO X.K kvs ty):=by intro pins s σ H Q I h;refine w9 PySem.F.slot_dict_getitem.lookup hs (thn (jw (v:=.ref a) hg hm rfl hd pins s σ H (λ v H'=>v=.ref a/\H'=H) I ⟨rfl,rfl⟩) λ u s1 hq92=>?_);obtain⟨x1,H1,I1,rx,ex,eH⟩:=hq92;subst ex eH;obtain rfl:u=Value.ref a:=rx;refine thn (he pins s1 σ H1 _ I1 h) λ iv s2 hq93=>?_;obtain⟨y,H2,I2,ry,z,d,ey,l,q2⟩:=hq93;subst ey;obtain⟨L,vs,rel,dd,pr⟩:=kd.dd I2;have lv:=jQ z pr;rw[l] at lv;obtain⟨b,eb,rb⟩:=OR.some_of lv;obtain⟨w',hw,rw'⟩:=pA.some_of (v:=b) (o:=valueAt vs (.inr z)) (by rw[<- eb];exact rel.val (.inr z));exact⟨dd.typeIs,wpAny_getItem_of (nU (k:=.inr z) ry) dd.mapOf hw ⟨b,H2,I2.tok _,rw',q2 b rb⟩⟩
def ag8(kvs:List (Str×PyData))(te:TD)(τ:DS)(M:MH)(Q:QD):Prop:=te τ M λ w M1=>∃ z d,w=.d (.str z)/\gF kvs z=some d/\Q (.d d) M1
theorem afj(hg:Gl X x)(hm:X.mg x=some (.ref a))(kd:jE X.w X.K a kvs)(he:PD X e te)(hs:ad4 e:=by exact λ _ _=>rfl)(hd:ND x:=by decide):PD X (.Subscript (.Name x p) e pos) (ag8 kvs te):=
 ie (ajK hg hm kd he hs hd) λ σ H Q h=>by obtain⟨τ,M,Qd,A,h,k⟩:=h;refine⟨τ,M,_,A,h,λ y H1 w M1 kp r m1 hq94=>?_⟩;obtain⟨z,d,ew,l,q⟩:=hq94;subst ew;simp only[aQ,aN] at r;exact⟨z,d,r,l,λ v hv=>k _ H1 (.d d) M1 kp (hv H1) m1 q⟩
theorem zP{ds:List PyData}(hg:Gl X x)(hm:X.mg x=some (.ref a))(ht:w5 X.K (.ref a) (.tuple ds)=true)(hd:ND x:=by decide):PD X (.Name x pos) (dC (.d (.tuple ds))):=
 agg (jw (v:=.ref a) hg hm rfl hd) λ H=>by
  obtain⟨y,h1,h2⟩:=aad ht;have e:y=.ref a:=by have h3:=h2 H;simp only[aN] at h3;obtain⟨c,_,e,_⟩:=h3;subst e;have:(Value.ref a)=.ref c:=h1;cases this;rfl
  rw[<- e];exact h2 H
theorem adO(hg:Gl X x)(hm:X.mg x=some (.ref a))(kd:jE X.w X.K a kvs)(he:Jd (PD X e te))(m:M1 X (.Name x p) "get" apos e cpos:=by exact⟨rfl,rfl,rfl,rfl⟩)(hd:ND x:=by decide):Jd (PD X (.Call (.Attribute (.Name x p) "get" apos) [e] [] cpos) (agw kvs te)):=⟨_root_.D.acI hg hm kd he.h m hd⟩
theorem mZ(hg:Gl X x)(hm:X.mg x=some (.ref a))(kd:jE X.w X.K a kvs)(he:Jd (PD X e te))(hs:ad4 e:=by exact λ _ _=>rfl)(hd:ND x:=by decide):Jd (PD X (.Subscript (.Name x p) e pos) (ag8 kvs te)):=⟨_root_.D.afj hg hm kd he.h hs hd⟩
theorem abv(hg:Gl X x)(hm:X.mg x=some (.ref a))(ht:w5 X.K (.ref a) (.tuple ds)=true)(hd:ND x:=by decide):Jd (PD X (.Name x pos) (dC (.d (.tuple ds)))):=⟨_root_.D.zP hg hm ht hd⟩
def akW:V->List V->Hp->VK->Prop:=λ x vs H Q=>∃ a c kvs more,x=.ref a/\vs=[.ref c]/\H a=some (.dK kvs)/\Rd H c (.dK more)/\a≠c/\kvs.length+more.length<=sizeLine/\Q .non (upd H a (.dK (ig kvs more)))
theorem agI:MtM X "dict.update" akW:=by intro pins s σ H x vs v us Q I rx rv h;obtain⟨a,c,kvs,more,rfl,rfl,ha,hc,ne,hz,q⟩:=h;cases rx;obtain⟨u,rfl,ru⟩:=rv.one;cases ru;obtain⟨_,hd,ws,rel,dd⟩:=adE I.hok ha;obtain⟨_,hd2,ws2,rel2,dd2⟩:=yF I.hok hc;refine call_meetsIn PySem.F.slot_dict_update dd.typeIs PySem.F.entry_dict_update (PySem.F.args_dict_update_2 _ _) (meets_dict_update (bt X.prog X.w) a c ne hd2) ⟨ws,ws2,dd,dd2,by rw[<- rel.length,<- rel2.length];exact hz,λ h' dd' _ sb=>?_⟩;have hl:=g6 more kvs;have he:∃ q,h'.get? a=some q:=let ⟨q,_,_,hq,_⟩:=dd'; ⟨q,hq⟩;exact⟨.non,_,oA (t':=s.toks) I (by rw[ha];exact True.intro) sb he (uW (by omega) hd (KV.merge rel2 rel) dd'),rfl,q⟩
def zh(td te:TD)(τ:DS)(M:MH)(Q:QD):Prop:=td τ M λ w M1=>∃ a kv0,w=.m a/\M1 a=some (.dic kv0)/\te τ M1 λ y M2=>∃ kvs,∃ more:List (Key×PyData),M2 a=some (.dic kvs)/\y=.d (.dict (more.map λ p=>(tE p.1,p.2)))/\((kvs.map (·.1))++more.map (·.1)).Nodup/\kvs.length+more.length<=sizeLine/\Q (.d .none) (bC M2 a (.dic (kvs++ik more)))
theorem jx{α β:Type}{R:α->β->Prop}{κ:Type}:∀ {l:List (κ×α)} {m:List (κ×β)},Paired (λ(p:κ×α) (q:κ×β)=>p.1=q.1/\R p.2 q.2) l m->l.map (·.1)=m.map (·.1)
 | _,_,.nil=>rfl
 | _,_,.cons h t=>by rw[List.map_cons,List.map_cons,h.1,jx t]
theorem qt:∀ {l l2:List α} {m m2:List β},Paired R l m->Paired R l2 m2->Paired R (l++l2) (m++m2)
 | _,_,_,_,.nil,h=>h
 | _,_,_,_,.cons a b,h=>.cons a (qt b h)
theorem qx{K:FG}{H:Hp}:∀ {l:List (Key×PyData)} {m:List (Key×V)},Paired (λ(p:Key×PyData) (q:Key×V)=>p.1=q.1/\aN K H p.2 q.2) l m->Paired (λ(p:Key×W) (q:Key×V)=>p.1=q.1/\aQ K H p.2 q.2) (l.map λ p=>(p.1,W.d p.2)) m
 | _,_,.nil=>.nil
 | _,_,.cons a b=>.cons ⟨a.1,a.2⟩ (qx b)
theorem jV(ho:Jd (PD X o td))(he:Jd (PD X e te))
  (hbase:attributeBase o "update" X.env (eval o X.env)=eval o X.env:=by rfl)
  (hfew:((backTo cpos (starEach [e] X.env)).all (λ x=>!x.1)&&(backToKw cpos (keywordEach [] X.env)).all (λ x=>x.1.isSome)
   && decide (([e]:List Expr).length+([]:List Keyword).length+(if ([]:List Keyword).isEmpty then 0 else 1)<30))=true:=by rfl)
  (hline:(apos.endLine==cpos.line)=true:=by rfl)(hs:eF e=false:=by rfl):Jd (PD X (.Call (.Attribute o "update" apos) [e] [] cpos) (zh td te)):=⟨have ho:=ho.h;have he:=he.h;
 ie (ac9 PySem.F.plainAttrs_dict PySem.F.slot_dict_update PySem.F.type_dict_update agI ho (pac he mN hs) hbase hfew hline (bV e [] X.env hs) rfl) λ σ H Q h=>by
  obtain⟨τ,M,Qd,A,h,k⟩:=h;refine⟨τ,M,_,A,h,λ x H1 w M1 kp1 r1 m1 hq95=>?_⟩;obtain⟨a,kv0,ew,hm0,q1⟩:=hq95;subst ew;have r1':x=.ref a:=r1;subst r1';obtain⟨l0,ea0,_⟩:=m1 _ _ hm0;refine⟨?_,τ,M1,aiE (λ y M2=>∃ kvs,∃ more:List (Key×PyData),M2 a=some (.dic kvs)/\y=.d (.dict (more.map λ p=>(tE p.1,p.2)))/\((kvs.map (·.1))++more.map (·.1)).Nodup/\kvs.length+more.length<=sizeLine/\Qd (.d .none) (bC M2 a (.dic (kvs++ik more)))),A.go kp1 m1,q1,λ ys H2 wys M2 kp2 r2 m2 q2=>?_⟩
  ·exact .inr (.inr (.inl ⟨rfl,.inl ⟨l0,ea0⟩⟩))
  obtain⟨y,ey,kvs,more,hm2,ey2,hnd,hl,q4⟩:=rP q2;subst ey ey2;obtain⟨v,ev,rv⟩:=gb r2;subst ev;simp only[aQ,aN] at rv;obtain⟨c,ob,l,ec,hc,rk⟩:=rv;subst ec;obtain⟨l2,ea2,pr⟩:=m2 _ _ hm2;have pk:=jv rk;have k1:kvs.map (·.1)=l2.map (·.1):=jx pr;have k2:more.map (·.1)=l.map (·.1):=jx pk;have em:ig l2 l=l2++l:=iZ (by rw[List.map_append,<- k1,<- k2];exact hnd);have kp4:Kp H2 (upd H2 a (.dK (l2++l))):=Kp.set ea2 (λ _ z=>nomatch z) (λ _ _ z=>nomatch z);have e1:kvs.length=l2.length:=by have:=congrArg List.length k1;simpa using this
  have e2:more.length=l.length:=by have:=congrArg List.length k2;simpa using this
  refine⟨a,c,l2,l,rfl,rfl,ea2,.inr ⟨ob,hc⟩,(λ z=>by rw[z,hc] at ea2;cases ea2),by omega,?_⟩;rw[em];refine k _ _ (.d .none) _ ((kp1.trans kp2).trans kp4) (by simp[aQ,aN]) (m2.put (mo:=.dic (kvs++ik more)) kp4 ⟨_,aA,?_⟩) q4;refine qt (Paired.lV pr λ p q z=>⟨z.1,z.2.keep kp4⟩) ?_;unfold ik;exact qx (Paired.lV pk λ p q z=>⟨z.1,z.2.keep kp4⟩)⟩
end D
namespace PySem.SeqAt
open MeetsSeq MeetsSeq2 MeetsSeq3 SeqRoads2
theorem rz(l:Addr)(items:Array Value)(n:Nat)(dd:Option Addr)(sl:Array (Option Value))(x:Value)(e:Value->Bool)(j:Nat)(hj:j<items.size)
  (hit:e items[j]=true)(hno:∀ m (hm:m<items.size),m<j->e items[m]=false) :
  Meets (Builtin.«tuple.index» ⟨[.ref l,x],[]⟩)
   (λ A R s=>s.heap.get? l=some {cls:=.type "tuple",dict:=dd,data:=.seq items n,slots:=sl}/\(∀ y,y∈items->EqAt A.in1 s y x (e y))/\R (.ok (.ret (.int j s.toks))) {s with toks:=s.toks+1}):=
 .of_wp λ prog w A R s h=>by
  obtain⟨hp,g,d,tk,os⟩:=s;obtain⟨hl,he,h⟩:=h;show wpAny (model prog w) A.in1 (Builtin.«tuple.index» ⟨[.ref l,x],[]⟩) _ _ _;unfold Builtin.«tuple.index»;simp only[Std.Legacy.Range.forIn_eq_forIn_range',Std.Legacy.Range.size]
  wp_walk using wpAny_loadPart' hl,wpAny_forIn_list _ (λ rest (b:Option Fin×Unit) s'=>b.1=none/\s'=⟨hp,g,d,tk,os⟩/\∃ i,i<=j/\rest=List.range' i (items.size-i)) _
  case turn =>
   rintro y rest b s' ⟨hb,rfl,i,hi,hr⟩;have hlt:i<items.size:=by omega
   have e1:items.size-i=(items.size-(i+1))+1:=by omega
   rw[e1,List.range'_succ] at hr;obtain⟨rfl,hr⟩:=List.cons.inj hr;have e2:items[y]? =some items[y]:=by simp[hlt]
   rw[e2];refine wb0 (he _ (Array.getElem_mem hlt) prog w _ _ ?_)
   by_cases hij:y=j
   ·subst hij;rw[hit]
    wp_walk
    exact⟨_,rfl,h⟩
   ·rw[hno y hlt (by omega)]
    wp_walk
    exact⟨rfl,rfl,y+1,by omega,hr⟩
  case fin =>
   rintro b s' ⟨hb,rfl,i,hi,hr⟩;have:=congrArg List.length hr;rw[List.length_nil,List.length_range'] at this;omega
  case h =>
   refine⟨rfl,rfl,0,Nat.zero_le _,?_⟩;congr 1;simp
end PySem.SeqAt
namespace ZT
abbrev TT(h:Heap)(j t:Addr)(k:Nat)(ys:Array Value):Prop:=h.IsTupleIter j t k/\h.IsTuple t ys
theorem ad9(st:TT s.heap j t k ys)(hn:t≠j)(hy:ys[k]? =some y)
  (q:∀ h',TT h' j t (k+1) ys->Heap.SameBut j s.heap h'->Q y {s with heap:=h'}):wpAny (model prog w) A (Builtin.SmallTypes.nextOf (.ref j)) Q E s:=by
 obtain⟨jt,tt⟩:=st;obtain⟨oj,ej,cj,dj⟩:=id jt;obtain⟨ot,et,ct,nt,dt⟩:=id tt;unfold Builtin.SmallTypes.nextOf;refine wb0 (wpAny_callSpecial?_slot (name:=Str.ofString "__next__") jt.typeIs F.slot_tuple_iterator_next (wpAny_call_entry F.slot_tuple_iterator_next jt.typeIs F.entry_tuple_iterator_next ?_ (F.args_tuple_iterator_next_1 _)));show wpAny _ _ (field (.ref j) 0 >>= _) _ _ s;refine wb0 (wpAny_field ej dj (x:=.ref t) rfl ?_);show wpAny _ _ (if (Value.ref t==Value.none)=true then _ else _) _ _ s;rw[if_neg (show ¬ ((Value.ref t==Value.none)=true) from ft0)];show wpAny _ _ (field (.ref j) 1 >>= _) _ _ s;refine wb0 (wpAny_field ej dj (x:=.int k 0) rfl ?_);show wpAny _ _ (seqItems? (.ref t) >>= _) _ _ s;refine wb0 (wpAny_seqItems et dt ?_);simp only[Int.toNat_natCast,hy];refine wb0 (wpAny_setField ej dj (by simp) (wp0 ⟨y,rfl,wp0 (q _ ⟨?_,tt.extBut (Heap.SameBut.update ..).extBut hn⟩ (Heap.SameBut.update ..))⟩));exact⟨_,Heap.get?_update_self _ ej (Obj.isFreed_of_fields (Obj.data_mapFields dj _)),(Obj.cls_mapFields ..).trans cj,by rw[Obj.data_mapFields dj];simp[rawInt]⟩
theorem afc(hh:A.handled=none)(st:TT s.heap j t k ys)(hy:ys[k]? =none)
  (q:∀ h' x,Heap.ExtBut j s.heap h'->(∃ o,h'.get? x=some o/\o.cls=.type "StopIteration")->E (.ref x) {s with heap:=h'}):wpAny (model prog w) A (Builtin.SmallTypes.nextOf (.ref j)) Q E s:=by
 obtain⟨jt,tt⟩:=st;obtain⟨oj,ej,cj,dj⟩:=id jt;obtain⟨ot,et,ct,nt,dt⟩:=id tt;unfold Builtin.SmallTypes.nextOf;refine wb0 (wpAny_callSpecial?_slot (name:=Str.ofString "__next__") jt.typeIs F.slot_tuple_iterator_next (wpAny_call_entry F.slot_tuple_iterator_next jt.typeIs F.entry_tuple_iterator_next ?_ (F.args_tuple_iterator_next_1 _)));show wpAny _ _ (field (.ref j) 0 >>= _) _ _ s;refine wb0 (wpAny_field ej dj (x:=.ref t) rfl ?_);show wpAny _ _ (if (Value.ref t==Value.none)=true then _ else _) _ _ s;rw[if_neg (show ¬ ((Value.ref t==Value.none)=true) from ft0)];show wpAny _ _ (field (.ref j) 1 >>= _) _ _ s;refine wb0 (wpAny_field ej dj (x:=.int k 0) rfl ?_);show wpAny _ _ (seqItems? (.ref t) >>= _) _ _ s;refine wb0 (wpAny_seqItems et dt ?_);simp only[Int.toNat_natCast,hy];refine wb0 (wpAny_rule (wb0 (wpAny_setField ej dj (by simp) ?_)));show wpAny _ _ (newExc (.type "StopIteration") [] >>= _) _ _ _;refine wb0 ?_;simp only[newExc,newTuple];refine wb0 (wpAny_newObj_type ?_ (by size_fits));refine wb0 (m:=firstArgMember _ _) (wpAny_of_eq (a:=Value.none) (by first | rfl | (simp only[firstArgMember];rfl)) (wpAny_newObj_type ?_ (by size_fits)))
 simp only[raiseNew];refine wb0 (wpAny_handled ?_)
 first | rw[show A.in1.handled=none from hh] | rw[hh]
 refine wb0 (wp0 (wpAny_throw (q _ _ (((Heap.SameBut.update ..).extBut.push _).push _) ⟨_,Heap.get?_push_size _ rfl,rfl⟩)))
def isIt(b:Bool)(h:Heap)(j t:Addr)(k:Nat):Prop:=match b with
 | true=>h.IsTupleIter j t k
 | false=>h.IsListIter j t k
def acs(b:Bool)(h:Heap)(t:Addr)(ys:Array Value):Prop:=match b with
 | true=>h.IsTuple t ys
 | false=>h.IsList t ys
theorem isIt.obj(x:isIt b h j t k):∃ o,h.get? j=some o/\o.data=.fields #[.ref t,.int k 0]:=by
 cases b<;>(obtain⟨o,e,_,d⟩:=x;exact⟨o,e,d⟩)
theorem isIt.at(x:isIt b h j t k)(f:∀ o,h.get? j=some o->h'.get? j=some o):isIt b h' j t k:=by
 cases b<;>(obtain⟨o,e,r⟩:=x;exact⟨o,f _ e,r⟩)
theorem acs.at(x:acs b h t ys)(f:∀ o,h.get? t=some o->h'.get? t=some o):acs b h' t ys:=by
 cases b<;>(obtain⟨o,e,r⟩:=x;exact⟨o,f _ e,r⟩)
theorem acs.lt(x:acs b h t ys):t<h.objs.size:=by
 cases b<;>(obtain⟨o,e,r⟩:=x;exact Heap.lt_size e)
abbrev TI(b:Bool)(h:Heap)(j t:Addr)(k:Nat)(ys:Array Value):Prop:=isIt b h j t k/\acs b h t ys
theorem TI.at(x:TI b h j t k ys)(f:∀ c o,(c=j\/c=t)->h.get? c=some o->h'.get? c=some o):TI b h' j t k ys:=⟨x.1.at λ o=>f _ o (.inl rfl),x.2.at λ o=>f _ o (.inr rfl)⟩
theorem wU(st:TI b s.heap j t k ys)(hn:t≠j)(hy:ys[k]? =some y)
  (q:∀ h',TI b h' j t (k+1) ys->Heap.SameBut j s.heap h'->Q y {s with heap:=h'}):wpAny (model prog w) A (Builtin.SmallTypes.nextOf (.ref j)) Q E s:=by
 cases b with
 | true=>exact ad9 st hn hy q
 | false=>exact wpAny_nextOf_list_item st.1 st.2 hy λ h' i sb=>q h' ⟨i,Heap.IsList.extBut st.2 sb.extBut hn⟩ sb
theorem aeW(hh:A.handled=none)(st:TI b s.heap j t k ys)(hy:ys[k]? =none)
  (q:∀ h' x,Heap.ExtBut j s.heap h'->(∃ o,h'.get? x=some o/\o.cls=.type "StopIteration")->E (.ref x) {s with heap:=h'}):wpAny (model prog w) A (Builtin.SmallTypes.nextOf (.ref j)) Q E s:=by
 cases b with
 | true=>exact afc hh st hy q
 | false=>exact wpAny_nextOf_list_end hh st.1 st.2 hy q
structure Zs(p q:Bool)(h:Heap)(z T O i j a b:Addr)(f:Value)(k1 k2:Nat)(xs ys:Array Value)(u v:Value):Prop where
 z:IsZip h z T O f
 t:IsPair h T (.ref i) (.ref j)
 o:IsPair h O u v
 i:TI p h i a k1 xs
 j:TI q h j b k2 ys
theorem next_item(D:ZipApart z T O i j a b)(Z:Zs p₁ p₂ s.heap z T O i j a b .none k k xs ys u v)(hx:xs[k]? =some x)(hy:ys[k]? =some y)
  (q:∀ h',Zs p₁ p₂ h' z T O i j a b (rawInt s.heap.objs.size) (k+1) (k+1) xs ys x y->IsPair h' s.heap.objs.size x y ->
   (∀ c o,c≠z->c≠O->c≠i->c≠j->s.heap.get? c=some o->h'.get? c=some o)->Q (some (.ref s.heap.objs.size)) {s with heap:=h'}):wpAny (model prog w) A (pyNext (.ref z)) Q E s:=by
 have hT:s.TypeIs (.ref z) "zip":= ⟨_,Z.z,rfl⟩;unfold pyNext;refine wb0 (wpAny_attempt (wpAny_callSpecial?_slot (name:=Str.ofString "__next__") hT F.slot_zip_next (wpAny_call_entry F.slot_zip_next hT F.entry_zip_next ?_ (F.args_zip_next_1 _))));show wpAny _ _ (field (.ref z) 2 >>= _) _ _ _;refine wb0 (wpAny_field Z.z rfl (x:=.bool false) rfl ?_);show wpAny _ _ (field (.ref z) 3 >>= _) _ _ _;refine wb0 (wpAny_field Z.z rfl (x:=.ref T) rfl (wb0 (wpAny_seqItems Z.t rfl ?_)));show wpAny _ _ (Builtin.SmallTypes.ownedTupleIsFree (.ref z) >>= _) _ _ _;refine wb0 ?_;unfold Builtin.SmallTypes.ownedTupleIsFree;refine wb0 (wpAny_field Z.z rfl (x:=.none) rfl (wp0 ?_));simp only[if_true];refine wb0 (wpAny_rule (wb0 (wpAny_field Z.z rfl (x:=.ref O) rfl (wb0 (wpAny_setField_rec Z.z (by simp) λ g1 z1 s1=>?_)))));replace z1:IsZip g1 z T O .ellipsis:=z1;refine wb0 ?_;simp only[List.zipIdx_cons,List.zipIdx_nil,List.forIn_cons,List.forIn_nil];have i1:TI p₁ g1 i a k xs:=Z.i.at λ c o hc q=>s1.extBut _ _ (by rcases hc with rfl | rfl;exact D.i1z;exact D.l1z) q;have j1:TI p₂ g1 j b k ys:=Z.j.at λ c o hc q=>s1.extBut _ _ (by rcases hc with rfl | rfl;exact D.i2z;exact D.l2z) q;refine wb0 (wb0 (wpAny_onRaise ?_));show wpAny _ _ (Builtin.SmallTypes.nextOf (.ref i) >>= _) _ _ _;refine wb0 (wU i1 D.l1i1 hx λ g2 i2 s2=>wp0 ?_);have o2:IsPair g2 O u v:=s2.extBut _ _ D.TOi1 (s1.extBut _ _ D.TOz Z.o);refine wb0 (wpAny_seqItems o2 rfl (wb0 (wpAny_updateSeq_pair o2 λ g3 o3 s3=>wb0 (wpAny_letGo (wp0 ?_)))));replace o3:IsPair g3 O x v:=o3;have j3:TI p₂ g3 j b k ys:=j1.at λ c o hc q=>s3.extBut _ _ (by rcases hc with rfl | rfl;exact D.TOi2.symm;exact D.l2TO) (s2.extBut _ _ (by rcases hc with rfl | rfl;exact D.i12.symm;exact D.l2i1) q);refine wb0 (wb0 (wpAny_onRaise ?_));show wpAny _ _ (Builtin.SmallTypes.nextOf (.ref j) >>= _) _ _ _;refine wb0 (wU j3 D.l2i2 hy λ g4 j4 s4=>wp0 ?_);have o4:IsPair g4 O x v:=s4.extBut _ _ D.TOi2 o3;refine wb0 (wpAny_seqItems o4 rfl (wb0 (wpAny_updateSeq_pair o4 λ g5 o5 s5=>wb0 (wpAny_letGo (wp0 (wp0 ?_))))));replace o5:IsPair g5 O x y:=o5;refine wb0 (wpAny_seqItems o5 rfl (wb0 (wpAny_newTuple ?_)));have sz:g5.objs.size=s.heap.objs.size:=by rw[s5.1,s4.1,s3.1,s2.1,s1.1]
 have z5:IsZip g5 z T O .ellipsis:=s5.extBut _ _ D.TOz.symm (s4.extBut _ _ D.i2z.symm (s3.extBut _ _ D.TOz.symm (s2.extBut _ _ D.i1z.symm z1)));have k5:∀ c o,c≠z->c≠O->c≠i->c≠j->s.heap.get? c=some o->g5.get? c=some o:=λ c o c1 c2 c3 c4 e=>s5.extBut _ _ c2 (s4.extBut _ _ c4 (s3.extBut _ _ c2 (s2.extBut _ _ c3 (s1.extBut _ _ c1 e))));have i5:TI p₁ g5 i a (k+1) xs:=i2.at λ c o hc q=>s5.extBut _ _ (by rcases hc with rfl | rfl;exact D.TOi1.symm;exact D.l1TO) (s4.extBut _ _ (by rcases hc with rfl | rfl;exact D.i12;exact D.l1i2) (s3.extBut _ _ (by rcases hc with rfl | rfl;exact D.TOi1.symm;exact D.l1TO) q));have j5:TI p₂ g5 j b (k+1) ys:=j4.at λ c o hc q=>s5.extBut _ _ (by rcases hc with rfl | rfl;exact D.TOi2.symm;exact D.l2TO) q;have zlt:z<g5.objs.size:=Heap.lt_size z5;show wpAny _ _ (Builtin.SmallTypes.ownedTupleHandOut (.ref z) (.ref g5.objs.size) >>= _) _ _ _;refine wb0 ?_;unfold Builtin.SmallTypes.ownedTupleHandOut;have z6:IsZip (g5.push {cls:=.type "tuple",data:=.seq #[x,y]}) z T O .ellipsis:=Heap.get?_push_of_some _ z5;refine wb0 (wpAny_setField_rec z6 (by simp) λ g7 z7 s7=>?_);replace z7:IsZip g7 z T O (rawInt g5.objs.size):=z7;refine wpAny_setField_rec z7 (by simp) λ g8 z8 s8=>?_;replace z8:IsZip g8 z T O (rawInt g5.objs.size):=z8;have up:∀ c o,c≠z->g5.get? c=some o->g8.get? c=some o:=λ c o c1 e=>s8.extBut _ _ c1 (s7.extBut _ _ c1 (Heap.get?_push_of_some _ e));have t8:IsPair g8 g5.objs.size x y:=s8.extBut _ _ (Nat.ne_of_gt zlt) (s7.extBut _ _ (Nat.ne_of_gt zlt) (Heap.get?_push_size _ rfl));rw[sz] at z8 t8;refine wp0 ⟨_,rfl,wp0 ?_⟩;show Q (some (.ref g5.objs.size)) _;rw[sz];exact q g8 ⟨z8,up _ _ D.TIz (k5 T _ D.TIz D.TITO D.TIi1 D.TIi2 Z.t),up _ _ D.TOz o5,i5.at λ c o hc q=>up _ o (by rcases hc with rfl | rfl;exact D.i1z;exact D.l1z) q,j5.at λ c o hc q=>up _ o (by rcases hc with rfl | rfl;exact D.i2z;exact D.l2z) q⟩ t8 λ c o c1 c2 c3 c4 e=>up c o c1 (k5 c o c1 c2 c3 c4 e)
theorem next_end(hh:A.handled=none)(D:ZipApart z T O i j a b)(Z:Zs p₁ p₂ s.heap z T O i j a b .none k k xs ys u v)(hx:xs[k]? =none\/ys[k]? =none)
  (q:∀ h',(∀ c o,c≠z->c≠O->c≠i->c≠j->s.heap.get? c=some o->h'.get? c=some o)->Q none {s with heap:=h'}):wpAny (model prog w) A (pyNext (.ref z)) Q E s:=by
 have hT:s.TypeIs (.ref z) "zip":= ⟨_,Z.z,rfl⟩;have fin:∀ h' x,(∀ c o,c≠z->c≠O->c≠i->c≠j->s.heap.get? c=some o->h'.get? c=some o)->(∃ o,h'.get? x=some o/\o.cls=.type "StopIteration") ->
   wpAny (model prog w) A (do if (<- PySem.isInstance (.ref x) (.type "StopIteration")) then pure none else throw (.ref x)) Q E {s with heap:=h'}:=λ h' x kp ⟨o,ho,hc⟩ =>
  wb0 (wpAny_isInstance (T:= "StopIteration") (b:=true) ⟨o,ho,hc⟩ isSubtype_stop (wp0 (q _ kp)))
 unfold pyNext;refine wb0 (wpAny_attempt (wpAny_callSpecial?_slot (name:=Str.ofString "__next__") hT F.slot_zip_next (wpAny_call_entry F.slot_zip_next hT F.entry_zip_next ?_ (F.args_zip_next_1 _))));show wpAny _ _ (field (.ref z) 2 >>= _) _ _ _;refine wb0 (wpAny_field Z.z rfl (x:=.bool false) rfl ?_);show wpAny _ _ (field (.ref z) 3 >>= _) _ _ _;refine wb0 (wpAny_field Z.z rfl (x:=.ref T) rfl (wb0 (wpAny_seqItems Z.t rfl ?_)));show wpAny _ _ (Builtin.SmallTypes.ownedTupleIsFree (.ref z) >>= _) _ _ _;refine wb0 ?_;unfold Builtin.SmallTypes.ownedTupleIsFree;refine wb0 (wpAny_field Z.z rfl (x:=.none) rfl (wp0 ?_));simp only[if_true];refine wb0 (wpAny_rule (wb0 (wpAny_field Z.z rfl (x:=.ref O) rfl (wb0 (wpAny_setField_rec Z.z (by simp) λ g1 z1 s1=>?_)))));replace z1:IsZip g1 z T O .ellipsis:=z1;refine wb0 ?_;simp only[List.zipIdx_cons,List.zipIdx_nil,List.forIn_cons,List.forIn_nil];have i1:TI p₁ g1 i a k xs:=Z.i.at λ c o hc q=>s1.extBut _ _ (by rcases hc with rfl | rfl;exact D.i1z;exact D.l1z) q;have j1:TI p₂ g1 j b k ys:=Z.j.at λ c o hc q=>s1.extBut _ _ (by rcases hc with rfl | rfl;exact D.i2z;exact D.l2z) q;refine wb0 (wb0 (wpAny_onRaise ?_));show wpAny _ _ (Builtin.SmallTypes.nextOf (.ref i) >>= _) _ _ _;cases ex:xs[k]? with
 | none =>
  refine wb0 (aeW hh i1 ex λ g2 x s2 hq96=>?_);obtain⟨ox,hox,hcx⟩:=hq96;have z2:IsZip g2 z T O .ellipsis:=s2 _ _ D.i1z.symm z1;have hxz:x≠z:=λ e=>by subst e;rw[z2] at hox;cases hox;simp at hcx
  refine wpAny_setField_rec z2 (by simp) λ g3 _ s3=>fin g3 x (λ c o c1 _ c3 _ e=>s3.extBut _ _ c1 (s2 _ _ c3 (s1.extBut _ _ c1 e))) ⟨ox,s3.extBut _ _ hxz hox,hcx⟩
 | some x0 =>
  have ey:ys[k]? =none:=by rcases hx with h | h;rw[ex] at h;cases h;exact h
  refine wb0 (wU i1 D.l1i1 ex λ g2 i2 s2=>wp0 ?_);have o2:IsPair g2 O u v:=s2.extBut _ _ D.TOi1 (s1.extBut _ _ D.TOz Z.o);refine wb0 (wpAny_seqItems o2 rfl (wb0 (wpAny_updateSeq_pair o2 λ g3 o3 s3=>wb0 (wpAny_letGo (wp0 ?_)))));have j3:TI p₂ g3 j b k ys:=j1.at λ c o hc q=>s3.extBut _ _ (by rcases hc with rfl | rfl;exact D.TOi2.symm;exact D.l2TO) (s2.extBut _ _ (by rcases hc with rfl | rfl;exact D.i12.symm;exact D.l2i1) q);refine wb0 (wb0 (wpAny_onRaise ?_));show wpAny _ _ (Builtin.SmallTypes.nextOf (.ref j) >>= _) _ _ _;refine wb0 (aeW hh j3 ey λ g4 x s4 hq97=>?_);obtain⟨ox,hox,hcx⟩:=hq97;have z4:IsZip g4 z T O .ellipsis:=s4 _ _ D.i2z.symm (s3.extBut _ _ D.TOz.symm (s2.extBut _ _ D.i1z.symm z1));have hxz:x≠z:=λ e=>by subst e;rw[z4] at hox;cases hox;simp at hcx
  refine wpAny_setField_rec z4 (by simp) λ g5 _ s5=>fin g5 x (λ c o c1 c2 c3 c4 e=>s5.extBut _ _ c1 (s4 _ _ c4 (s3.extBut _ _ c2 (s2.extBut _ _ c3 (s1.extBut _ _ c1 e))))) ⟨ox,s5.extBut _ _ hxz hox,hcx⟩
def itN(b:Bool):String:=match b with
 | true => "tuple_iterator"
 | false => "list_iterator"
theorem abB(p q:Bool)(e:p=true)(a b:Addr)(xs ys:Array Value):Meets (Builtin.«zip.__new__» ⟨[.type "zip",.ref a,.ref b],[]⟩) (λ _ R s=>acs p s.heap a xs/\acs q s.heap b ys /\
   R (.ok (.ret (.ref (s.heap.objs.size+4)))) {s with heap:=((((s.heap.push {cls:=.type (itN p),data:=.fields #[.ref a,.int 0 0]}).push {cls:=.type (itN q),data:=.fields #[.ref b,.int 0 0]}).push {cls:=.type "tuple",data:=.seq #[.ref s.heap.objs.size,.ref (s.heap.objs.size+1)]}).push {cls:=.type "tuple",data:=.seq #[.none,.none]}).push {cls:=.type "zip",data:=.fields #[.none,.bool false,.bool false,.ref (s.heap.objs.size+2),.ref (s.heap.objs.size+3)]}}):=
 .of_wp λ prog w A R s h=>by
  obtain⟨hp,g,d,tk,os⟩:=s;obtain⟨ha,hb,h⟩:=h;have hsub:=sub_zip;subst e
  ·have h1:Heap.IsTuple (Shared.heap ⟨hp,g,d,tk,os⟩) a xs:=ha;cases q with
   | true =>
    have h2:Heap.IsTuple (Shared.heap ⟨hp.push {cls:=.type "tuple_iterator",data:=.fields #[.ref a,.int 0 0]},g,d,tk,os⟩) b ys:=Heap.IsTuple.push hb _
    wp_walk using wpAny_pyIter_tuple h1,wpAny_pyIter_tuple h2
    refine⟨_,rfl,?_⟩;simp only[Heap.size_push];exact h
   | false =>
    have h2:Heap.IsList (Shared.heap ⟨hp.push {cls:=.type "tuple_iterator",data:=.fields #[.ref a,.int 0 0]},g,d,tk,os⟩) b ys:=Heap.IsList.push hb _
    wp_walk using wpAny_pyIter_tuple h1,wpAny_pyIter_list h2
    refine⟨_,rfl,?_⟩;simp only[Heap.size_push];exact h
theorem aec(hp₁:p₁=true)(ha:acs p₁ s.heap a xs)(hb:acs p₂ s.heap b ys)
  (h:∀ h',Zs p₁ p₂ h' (s.heap.objs.size+4) (s.heap.objs.size+2) (s.heap.objs.size+3) s.heap.objs.size (s.heap.objs.size+1) a b .none 0 0 xs ys .none .none ->
   (∀ c o,s.heap.get? c=some o->h'.get? c=some o)->Q (.ref (s.heap.objs.size+4)) {s with heap:=h'}) :
  wpAny (model prog w) A (call (.type "zip") [.ref a,.ref b]) Q E s:=by
 refine callType_new F.called_zip (by decide) (F.typeCall_zip_2 _ _) (F.newCall_zip_2 _ _) (λ obj=>F.args_object_init_3 obj _ _) F.entry_zip_new (abB p₁ p₂ hp₁ a b xs ys) ⟨ha,hb,?_⟩;generalize e1:s.heap.push {cls:=.type (itN p₁),data:=.fields #[.ref a,.int 0 0]}=g1;have z1:g1.objs.size=s.heap.objs.size+1:=by rw[<- e1];exact Heap.size_push ..
 have n1:g1.get? s.heap.objs.size=some {cls:=.type (itN p₁),data:=.fields #[.ref a,.int 0 0]}:=by rw[<- e1];exact Heap.get?_push_size _ rfl
 have k1:∀ c o,s.heap.get? c=some o->g1.get? c=some o:=λ c o q=>by rw[<- e1];exact Heap.get?_push_of_some _ q
 generalize e2:g1.push {cls:=.type (itN p₂),data:=.fields #[.ref b,.int 0 0]}=g2;have z2:g2.objs.size=s.heap.objs.size+2:=by rw[<- e2,Heap.size_push,z1]
 have n2:g2.get? (s.heap.objs.size+1)=some {cls:=.type (itN p₂),data:=.fields #[.ref b,.int 0 0]}:=by rw[<- e2,<- z1];exact Heap.get?_push_size _ rfl
 have k2:∀ c o,g1.get? c=some o->g2.get? c=some o:=λ c o q=>by rw[<- e2];exact Heap.get?_push_of_some _ q
 generalize e3:g2.push {cls:=.type "tuple",data:=.seq #[.ref s.heap.objs.size,.ref (s.heap.objs.size+1)]}=g3;have z3:g3.objs.size=s.heap.objs.size+3:=by rw[<- e3,Heap.size_push,z2]
 have n3:g3.get? (s.heap.objs.size+2)=some {cls:=.type "tuple",data:=.seq #[.ref s.heap.objs.size,.ref (s.heap.objs.size+1)]}:=by rw[<- e3,<- z2];exact Heap.get?_push_size _ rfl
 have k3:∀ c o,g2.get? c=some o->g3.get? c=some o:=λ c o q=>by rw[<- e3];exact Heap.get?_push_of_some _ q
 generalize e4:g3.push {cls:=.type "tuple",data:=.seq #[.none,.none]}=g4;have z4:g4.objs.size=s.heap.objs.size+4:=by rw[<- e4,Heap.size_push,z3]
 have n4:g4.get? (s.heap.objs.size+3)=some {cls:=.type "tuple",data:=.seq #[.none,.none]}:=by rw[<- e4,<- z3];exact Heap.get?_push_size _ rfl
 have k4:∀ c o,g3.get? c=some o->g4.get? c=some o:=λ c o q=>by rw[<- e4];exact Heap.get?_push_of_some _ q
 generalize e5:g4.push {cls:=.type "zip",data:=.fields #[.none,.bool false,.bool false,.ref (s.heap.objs.size+2),.ref (s.heap.objs.size+3)]}=g5;have n5:g5.get? (s.heap.objs.size+4)=some {cls:=.type "zip",data:=.fields #[.none,.bool false,.bool false,.ref (s.heap.objs.size+2),.ref (s.heap.objs.size+3)]}:=by rw[<- e5,<- z4];exact Heap.get?_push_size _ rfl
 have k5:∀ c o,g4.get? c=some o->g5.get? c=some o:=λ c o q=>by rw[<- e5];exact Heap.get?_push_of_some _ q
 have kk:∀ c o,s.heap.get? c=some o->g5.get? c=some o:=λ c o q=>k5 _ _ (k4 _ _ (k3 _ _ (k2 _ _ (k1 _ _ q))));refine⟨⟨_,n5,rfl⟩,h g5 ⟨n5,k5 _ _ (k4 _ _ n3),k5 _ _ n4,⟨?_,ha.at λ o=>kk _ o⟩,?_,hb.at λ o=>kk _ o⟩ kk⟩
 ·cases p₁<;>exact⟨_,k5 _ _ (k4 _ _ (k3 _ _ (k2 _ _ n1))),rfl,rfl⟩
 ·cases p₂<;>exact⟨_,k5 _ _ (k4 _ _ (k3 _ _ n2)),rfl,rfl⟩
end ZT
namespace D
open L2
def SqB(b:Bool)(K:FG)(H:Hp)(a:Addr)(xs:List V):Prop:=match b with
 | true=>SqT K H a xs
 | false=>SqL K H a xs
theorem Inv.sqB(I:Inv X pins σ H s)(h:SqB b X.K H a xs):∃ its:List Value,Vals xs its/\ZT.acs b s.heap a its.toArray:=by
 cases b with
 | true=>obtain⟨its,r,p,_⟩:=I.tuple h;exact⟨its,r,p⟩
 | false=>obtain⟨its,r,p,_⟩:=I.list h;exact⟨its,r,p.isList⟩
theorem Inv.aau(I:Inv X pins σ H s)(h:SqB b X.K H a xs)(h':SqB b X.K H a ys):xs=ys:=by
 cases b with
 | true=>exact I.tI h h'
 | false=>exact I.rj h h'
def alW(p q:Bool)(K:FG)(a b:Addr):It:=
 ⟨λ i H=>∃ xs ys x y,SqB p K H a xs/\SqB q K H b ys/\xs[i]? =some x/\ys[i]? =some y,
  λ i H x H'=>∃ T u v,H T=none/\x=.ref T/\H'=upd H T (.tup [u,v])/\(∀ xs,SqB p K H a xs->xs[i]? =some u)/\∀ ys,SqB q K H b ys->ys[i]? =some v,
  λ i H=>∃ xs ys,SqB p K H a xs/\SqB q K H b ys/\(xs.length<=i\/ys.length<=i)⟩
theorem aaG{p₁ p₂:Bool}{P:Program}{w:World}{K:FG}{elts:List Expr}{x1:Nat}{tpos:Pos}{z TI TO i1 i2 a b:Addr}(Dz:ZipApart z TI TO i1 i2 a b) :
  Turn P w K (.Tuple elts x1 tpos) (alW p₁ p₂ K a b) [z,TI,TO,i1,i2] z (λ i h=>IsZip h z TI TO .none/\IsPair h TI (.ref i1) (.ref i2)/\(∃ u v,IsPair h TO u v)/\ZT.isIt p₁ h i1 a i/\ZT.isIt p₂ h i2 b i) where
 mem:=by simp
 obj:=λ i h ⟨hz,hTI,⟨u,v,hTO⟩,x1,x2⟩ c hc=>by
  obtain⟨o1,e1,d1⟩:=x1.obj;obtain⟨o2,e2,d2⟩:=x2.obj;have q:c=z\/c=TI\/c=TO\/c=i1\/c=i2:=by simpa using hc
  rcases q with rfl | rfl | rfl | rfl | rfl
  ·exact⟨_,hz,λ v q=>by cases q⟩
  ·exact⟨_,hTI,λ v q=>by cases q⟩
  ·exact⟨_,hTO,λ v q=>by cases q⟩
  ·exact⟨o1,e1,λ v q=>by rw[d1] at q;cases q⟩
  ·exact⟨o2,e2,λ v q=>by rw[d2] at q;cases q⟩
 keep:=λ i h h' ⟨hz,hTI,⟨u,v,hTO⟩,x1,x2⟩ k=>⟨k z (by simp) _ hz,k TI (by simp) _ hTI,⟨u,v,k TO (by simp) _ hTO⟩,x1.at λ o e=>k i1 (by simp) _ e,x2.at λ o e=>k i2 (by simp) _ e⟩
 item:=by
  intro X hP hw hK hc i pins s σ H E I hf ⟨hz,hTI,⟨u0,v0,hTO⟩,l1,l2⟩ ⟨xs,ys,x,y,hq1,hq2,hx,hy⟩;subst hP hw hK;obtain⟨its1,rv1,p1⟩:=Inv.sqB I hq1;obtain⟨its2,rv2,p2⟩:=Inv.sqB I hq2;obtain⟨u,hu,ru⟩:=rv1.get hx;obtain⟨v,hv,rv⟩:=rv2.get hy;refine ZT.next_item Dz (xs:=its1.toArray) (ys:=its2.toArray) ⟨hz,hTI,hTO,⟨l1,p1⟩,l2,p2⟩ (x:=u) (y:=v) (by simpa using hu) (by simpa using hv) λ h' Z' hT kp=>?_;refine⟨_,rfl,wpAny_letOwnedTupleGo_zip Z'.z λ h'' hz'' sb=>?_⟩;obtain⟨t0,t1,t2,t3,t4,t5⟩:=I.zJ (lr0 _) (I.hok.fresh (lr0 _));have nT:s.heap.objs.size≠z:=Nat.ne_of_gt (Heap.lt_size hz);have nTO:s.heap.objs.size≠TO:=Nat.ne_of_gt (Heap.lt_size hTO);have n1:s.heap.objs.size≠i1:=by obtain⟨o,e,_⟩:=l1.obj;exact Nat.ne_of_gt (Heap.lt_size e)
  have n2:s.heap.objs.size≠i2:=by obtain⟨o,e,_⟩:=l2.obj;exact Nat.ne_of_gt (Heap.lt_size e)
  have nTI:s.heap.objs.size≠TI:=Nat.ne_of_gt (Heap.lt_size hTI);have I1:Inv X pins σ H {s with heap:=h'',toks:=s.toks}:=Inv.aaL (ch:=[z,TI,TO,i1,i2]) I (λ c ob hc q=>by simp only[List.mem_cons,List.not_mem_nil,or_false,not_or] at hc;exact(sb.2 c hc.1).trans (kp c ob hc.1 hc.2.2.1 hc.2.2.2.1 hc.2.2.2.2 q)) hf
  have eT:h''.get? s.heap.objs.size=some {cls:=.type "tuple",data:=.seq #[u,v]}:=(sb.2 _ nT).trans hT;have I2:=Inv.aeT (us:=[u,v]) (ys:=[x,y]) I1 eT t0 (.cons ru (.cons rv .nil)) (by simp;have:=s16;omega) t3 t1 t4 t5;refine⟨.ref s.heap.objs.size,_,I2,rfl,⟨_,x,y,t0,rfl,rfl,λ zs hz=>by rw[Inv.aau I hz hq1];exact hx,λ zs hz=>by rw[Inv.aau I hz hq2];exact hy⟩,⟨hz'',(sb.2 _ Dz.TIz).trans Z'.t,⟨u,v,(sb.2 _ Dz.TOz).trans Z'.o⟩,?_,?_⟩,λ c hc=>?_⟩
  ·exact Z'.i.1.at λ o e=>(sb.2 i1 Dz.i1z).trans e
  ·exact Z'.j.1.at λ o e=>(sb.2 i2 Dz.i2z).trans e
  ·have q:c=z\/c=TI\/c=TO\/c=i1\/c=i2:=by simpa using hc
   have hn:c≠s.heap.objs.size:=by rcases q with rfl | rfl | rfl | rfl | rfl<;>(intro e;first | exact nT e.symm | exact nTI e.symm | exact nTO e.symm | exact n1 e.symm | exact n2 e.symm)
   rw[aB hn];exact(hf c hc).1
 done:=by
  intro X hP hw hK hc i pins s σ H E I hf ⟨hz,hTI,⟨u0,v0,hTO⟩,l1,l2⟩ ⟨xs,ys,hq1,hq2,hx⟩;subst hP hw hK;obtain⟨its1,rv1,p1⟩:=Inv.sqB I hq1;obtain⟨its2,rv2,p2⟩:=Inv.sqB I hq2;have e1:=rv1.length;have e2:=rv2.length;refine ZT.next_end (I.ok.hd hc) Dz (xs:=its1.toArray) (ys:=its2.toArray) ⟨hz,hTI,hTO,⟨l1,p1⟩,l2,p2⟩ ?_ λ h' eb=>⟨rfl,Inv.aaL (t':=s.toks) (ch:=[z,TI,TO,i1,i2]) I (λ c ob hc q=>by simp only[List.mem_cons,List.not_mem_nil,or_false,not_or] at hc;exact eb c ob hc.1 hc.2.2.1 hc.2.2.2.1 hc.2.2.2.2 q) hf⟩
  rcases hx with hx | hx
  ·exact .inl (by simp;omega)
  ·exact .inr (by simp;omega)
 self:=λ _ _ _ _ _ ⟨hz,_⟩ h=>wpAny_pyIter_zip hz h
def alv(p q:Bool)(K:FG)(ta:TA):TI:=λ σ H R=>ta σ H λ vs H1=>∃ c d xs ys,vs=[.ref c,.ref d]/\SqB p K H1 c xs/\SqB q K H1 d ys/\R (alW p q K c d) H1
theorem ahg{p₁ p₂:Bool}(hp₁:p₁=true){elts:List Expr}{x1:Nat}{tpos:Pos}(hg:Gl X "zip")(hm:X.mg "zip" = none)(ha:PA X [a,b] ta)(hs:starEach [a,b] X.env=(false,eval a X.env)::starEach [b] X.env:=by rfl)(hpl:(backTo pos (starEach [b] X.env)).any (·.1)=false:=by rfl) :
  PI X (.Tuple elts x1 tpos) (.Call (.Name "zip" p) [a,b] [] pos) (alv p₁ p₂ X.K ta):=by
 intro pins s σ H R I h;refine Call_ (vh I hg hm aiP (PyProof.Rows.callWith_type1 (thn (ha pos pins s σ H _ I h) λ us s1 ⟨vs,H1,I1,r1,q1⟩=>?_) hs hpl));obtain⟨c,d,xs,ys,e,hq1,hq2,q⟩:=q1;subst e;obtain⟨v1,v2,rfl,rr1,rr2⟩:=vals2 r1;cases (show _=Value.ref c from rr1);cases (show _=Value.ref d from rr2);obtain⟨its1,rv1,p1⟩:=Inv.sqB I1 hq1;obtain⟨its2,rv2,p2⟩:=Inv.sqB I1 hq2;have a1:c<s1.heap.objs.size:=p1.lt;have a2:d<s1.heap.objs.size:=p2.lt;refine ZT.aec hp₁ p1 p2 λ h' Z kp=>?_;have I2:Inv X pins σ H1 {s1 with heap:=h'}:=I1.kept (t':=s1.toks) kp;refine wpAny_pyIter_zip Z.z ?_;refine⟨_,[_,_,_,_,_],_,_,H1,rfl,I2,aaG (zipApart_new a1 a2),⟨Z.z,Z.t,⟨_,_,Z.o⟩,Z.i.1,Z.j.1⟩,λ e he=>?_,q⟩;have z:s1.heap.objs.size<=e:=by
  have z:e=s1.heap.objs.size+4\/e=s1.heap.objs.size+2\/e=s1.heap.objs.size+3\/e=s1.heap.objs.size\/e=s1.heap.objs.size+1:=by simpa using he
  rcases z with z | z | z | z | z<;>rw[z]<;>first | exact lr0 _ | exact Nat.le_add_right _ _
 exact I1.zJ z (I1.hok.fresh z)
section
variable {X:Cx}{K:FG}{a b:Expr}{p pos:Pos}{t:TAd}
def sqD(b:Bool)(ds:List PyData):PyData:=match b with
 | true=>.tuple ds
 | false=>.list ds
theorem abx{b:Bool}{ds:List PyData}{v:V}(r:aN K H (sqD b ds) v):∃ c xs,v=.ref c/\SqB b K H c xs/\(∀ H',Kp H H'->SqB b K H' c xs)/\bJ K H ds xs:=by
 cases b with
 | true =>
  simp only[sqD,aN] at r;obtain⟨c,xs,e,h1,h2⟩:=r;exact⟨c,xs,e,h1,λ H' k=>SqT.keep k h1,h2⟩
 | false =>
  simp only[sqD,aN] at r;obtain⟨c,xs,e,h1,h2⟩:=r;exact⟨c,xs,e,h1.sq,λ H' k=>(h1.keep k).sq,h2⟩
def akR(p q:Bool)(t:TAd)(τ:DS)(M:MH)(R:List W->MH->Prop):Prop:=t τ M λ ws M1=>∃ ds es,ws=[.d (sqD p ds),.d (sqD q es)]/\R (agc ds es) M1
def ahU(t:TAd)(τ:DS)(M:MH)(R:List W->MH->Prop):Prop:=t τ M λ ws M1=>∃ ds es,ws=[.d (.tuple ds),.d (.tuple es)]/\R (agc ds es) M1
theorem adS{p₁ p₂:Bool}(hp₁:p₁=true){elts:List Expr}{x1:Nat}{tpos:Pos}(hg:Gl X "zip")(hm:X.mg "zip" = none)(ha:PAd X [a,b] t)(h1:eF a=false:=by rfl)(h2:([b].all λ e=>!eF e)=true:=by rfl) :
  PId X (.Tuple elts x1 tpos) (.Call (.Name "zip" p) [a,b] [] pos) (akR p₁ p₂ t):=aj6 (ahg hp₁ hg hm ha (bV a [b] X.env h1) (cI pos X.env [b] h2)) λ σ H R hq98=>by
 obtain⟨τ,M,Rd,A,h,k⟩:=hq98;refine⟨τ,M,_,A,h,λ vs H1 ws M1 kp r m hq99=>?_⟩;obtain⟨ds,es,ew,q⟩:=hq99;subst ew;obtain⟨v,v',ev,r1,r2⟩:=xS r;obtain⟨c,xs,e1,hs,ks,ra⟩:=abx r1;obtain⟨d,ys,e2,hs',ks',ra'⟩:=abx r2;subst e1 e2;have hl:=ra.length;have hl':=ra'.length;refine⟨c,d,xs,ys,ev,hs,hs',k _ H1 _ M1 kp m (λ H2 kp2 i=>?_) q⟩;have hs2:=ks _ kp2;have hs2':=ks' _ kp2;have hlw:(agc ds es).length=min xs.length ys.length:=by simp[agc,hl,hl']
 refine⟨λ hi=>⟨xs,ys,xs[i]'(by omega),ys[i]'(by omega),hs2,hs2',by simp,by simp⟩,λ hi=>⟨xs,ys,hs2,hs2',by omega⟩,λ x H' hi hq100=>?_⟩;obtain⟨T,u,v,hT,ex,eH,hu,hv⟩:=hq100;subst ex eH;have hxu:=hu xs hs2;have hxv:=hv ys hs2';obtain⟨d1,e3,rd⟩:=(ra.keep kp2).get' hxu;obtain⟨d2,e4,rd'⟩:=(ra'.keep kp2).get' hxv;have kpn:Kp H2 (upd H2 T (.tup [u,v])):=Kp.new hT;have hid:i<min ds.length es.length:=by rw[hlw] at hi;omega
 refine⟨kpn,λ M m=>m.new hT,.d (.tuple [ds.getD i .none,es.getD i .none]),by unfold agc;rw[List.getElem?_map,List.getElem?_range hid];rfl,?_⟩;have ed:ds.getD i .none=d1:=by simp[List.getD,e3]
 have ed':es.getD i .none=d2:=by simp[List.getD,e4]
 rw[ed,ed'];simp only[aQ,aN,bJ];exact⟨T,_,rfl,.inl (.inl aA),_,_,rfl,rd.keep kpn,_,_,rfl,rd'.keep kpn,rfl⟩
end
def acU(ds:List PyData)(d:PyData)(j:Nat):Prop:=j<ds.length/\(∀ y,ds[j]? =some y->PyData.eqv y d=true)/\∀ m y,m<j->ds[m]? =some y->PyData.eqv y d=false
def aiR(K:FG):V->List V->Hp->VK->Prop:=λ x vs H Q=>∃ y d ds j,vs=[y]/\aN K H (.tuple ds) x/\md K H d y/\uU d ds=true/\acU ds d j/\Q (.int (j:Nat)) H
theorem acW(hr:eO k X.A):MtM X "tuple.index" (aiR X.K):=by
 intro pins s σ H x vs v us Q I rx rv h;obtain⟨y,d,ds,j,rfl,h1,h2,o,⟨j0,j1,j2⟩,q⟩:=h;obtain⟨u,rfl,ru⟩:=rv.one;simp only[uU,wc,ae00,Bool.not_eq_true'] at o;obtain⟨⟨o1,o2⟩,o3,o4⟩:=o;obtain⟨as,r2⟩:=eB I d h2 ru o2;obtain⟨bs,r1⟩:=eP I (.tuple ds) h1 rx o4;have c3:PyData.canLayAll0 ds=true:=SeqAt.canLay_of_shaped o3;cases r1 with
 | @tuple a ob its n _ as1 e1 e2 e3 e4 =>
  obtain⟨cls,dd,data,sl⟩:=ob;simp only at e2 e3;subst e2 e3;have em:=SeqAt.readsAll_map ds _ _ c3 e4;have hlen:ds.length=its.size:=by have:=congrArg List.length em;simpa using this.symm
  have hat:∀ m (hm:m<its.size),ds[m]? =some (SeqAt.readOf s.heap its[m]):=λ m hm=>by rw[<- em,List.getElem?_map];simp[hm]
  refine call_meets F.slot_tuple_index ⟨_,e1,rfl⟩ F.entry_tuple_index (F.args_tuple_index_2 _ _) (SeqAt.rz a its n dd sl u (λ z=>PyData.eqv (SeqAt.readOf s.heap z) d) j (by omega) (j1 _ (hat j (by omega))) (λ m hm hlt=>j2 m _ hlt (hat m hm)))
   ⟨e1,SeqAt.items_eqAt e4 r2 c3 (SeqAt.canLay_of_shaped o1) (nI hr.h o1),⟨.int _,H,I.tok _,⟨_,rfl⟩,q⟩⟩
def aai(td te:TD)(τ:DS)(M:MH)(Q:QD):Prop:=td τ M λ w M1=>∃ ds,w=.d (.tuple ds)/\te τ M1 λ y M2=>∃ d j,y=.d d/\uU d ds=true/\acU ds d j/\Q (.d (.int (j:Nat))) M2
theorem abz(hg:Gl X "zip")(hm:X.mg "zip" = none)(ha:Jd (PAd X [a,b] t))(h1:eF a=false:=by rfl)(h2:([b].all λ e=>!eF e)=true:=by rfl):Jd (PId X (.Tuple elts x1 tpos) (.Call (.Name "zip" p) [a,b] [] pos) (ahU t)):=⟨have ha:=ha.h;adS (p₁:=true) (p₂:=true) rfl hg hm ha h1 h2⟩
theorem t7(hr:eO k X.A)(ho:Jd (PD X o td))(he:Jd (PD X e te))
  (hbase:attributeBase o "index" X.env (eval o X.env)=eval o X.env:=by rfl)
  (hfew:((backTo cpos (starEach [e] X.env)).all (λ x=>!x.1)&&(backToKw cpos (keywordEach [] X.env)).all (λ x=>x.1.isSome)
   && decide (([e]:List Expr).length+([]:List Keyword).length+(if ([]:List Keyword).isEmpty then 0 else 1)<30))=true:=by rfl)
  (hline:(apos.endLine==cpos.line)=true:=by rfl)(hs:eF e=false:=by rfl):Jd (PD X (.Call (.Attribute o "index" apos) [e] [] cpos) (aai td te)):=⟨have ho:=ho.h;have he:=he.h;
 ie (ac9 PySem.F.plainAttrs_tuple PySem.F.slot_tuple_index PySem.F.type_tuple_index (acW hr) ho (pac he mN hs) hbase hfew hline (bV e [] X.env hs) rfl) λ σ H Q h=>by obtain⟨τ,M,Qd,A,h,k⟩:=h;refine⟨τ,M,_,A,h,λ x H1 w M1 kp1 r1 m1 hq101=>?_⟩;obtain⟨ds,ew,q1⟩:=hq101;subst ew;have r1':=r1;simp only[aQ,aN] at r1';obtain⟨a,vs,ex,hsq,ra⟩:=r1';subst ex;refine⟨.inr (.inl ⟨rfl,vs,hsq⟩),τ,M1,aiE (λ y M2=>∃ d j,y=.d d/\uU d ds=true/\acU ds d j/\Qd (.d (.int (j:Nat))) M2),A.go kp1 m1,q1,λ ys H2 wys M2 kp2 r2 m2 q2=>?_⟩;obtain⟨y,ey,d,j,ed,ok,hj,q4⟩:=rP q2;subst ey ed;obtain⟨v,ev,rv⟩:=gb r2;subst ev;exact⟨v,d,ds,j,rfl,r1.keep kp2,.inl rv,ok,hj,k _ _ (.d (.int _)) _ (kp1.trans kp2) (by simp[aQ,aN]) m2 q4⟩⟩
section
variable {X:Cx}{K:FG}
end
section
variable {X:Cx}{K:FG}
end
section
variable {X:Cx}{e st:Expr}{te:TE}{ts:TO}{pos p2:Pos}
end
section
variable {X:Cx}{K:FG}{e st:Expr}{te:TD}{ts:TOd}{pos p2:Pos}
end
def ami(kvs:List (Str×PyData))(ty:TE):TE:=λ σ H Q=>ty σ H λ y H1=>∃ z,y=.str z/\Q (.bl (gF kvs z).isSome) H1
theorem ajt(hg:Gl X x)(hm:X.mg x=some (.ref a))(kd:jE X.w X.K a kvs)(he:PE X e ty)(hd:ND x:=by decide):PC X .In e (.Name x p) (ami kvs ty):=by
 intro pins s σ H Q I h;refine thn (he pins s σ H _ I h) λ iv s1 hq102=>?_;obtain⟨y,H1,I1,ry,z,ey,q1⟩:=hq102;subst ey;refine thn (jw (v:=.ref a) hg hm rfl hd pins s1 σ H1 (λ v H'=>v=.ref a/\H'=H1) I1 ⟨rfl,rfl⟩) λ u s2 hq103=>?_;obtain⟨x1,H2,I2,rx,ex,eH⟩:=hq103;subst ex eH;obtain rfl:u=Value.ref a:=rx;obtain⟨L,vs,rel,dd,pr⟩:=kd.dd I2;have lv:=jQ z pr;refine wpAny_in_of (nU (k:=.inr z) ry) kd.ns dd.mapOf ?_;rw[<- (rel.val (.inr z)).fW];have e:(gF kvs z).isSome=(nO L (.inr z)).isSome:=by
  cases q:gF kvs z with
  | none=>rw[q] at lv;rw[OR.none_of lv];rfl
  | some d=>rw[q] at lv;obtain⟨b,eb,_⟩:=OR.some_of lv;rw[eb];rfl
 rw[<- e];exact⟨.bl _,H2,I2.tok _,rfl,q1⟩
def ajF(kvs:List (Str×PyData))(te:TD)(τ:DS)(M:MH)(Q:QD):Prop:=te τ M λ w M1=>∃ z,w=.d (.str z)/\Q (.d (.bool (gF kvs z).isSome)) M1
theorem afk{K:FG}{σ:St}{H:Hp}{Q:VK}(h:up K (ajF kvs te) σ H Q):ami kvs (up K te) σ H Q:=by obtain⟨τ,M,Qd,A,h,k⟩:=h;refine⟨τ,M,_,A,h,λ y H1 w M1 kp r m1 hq104=>?_⟩;obtain⟨z,ew,q⟩:=hq104;subst ew;simp only[aQ,aN] at r;exact⟨z,r,k _ H1 (.d (.bool _)) M1 kp (by simp[aQ,aN]) m1 q⟩
section
variable {X:Cx}{e st:Expr}{a:Addr}{x:Str}{kvs:List (Str×PyData)}{pos p p2:Pos}{te:TD}{ts:TOd}
theorem rU(hg:Gl X x)(hm:X.mg x=some (.ref a))(kd:jE X.w X.K a kvs)(he:Jd (PD X e te))(hb:behindInMarks .In (.Name x p)=false:=by rfl)(hd:ND x:=by decide):Jd (PTd X (.Compare e [.In] [.Name x p] pos) (aJ (ajF kvs te))):=⟨have he:=he.h;
 aey (aa4 (ajt hg hm kd he hd) hb) λ σ H Q h=>iW (λ σ H Q h=>afk h) h⟩
end
end D
namespace XO
open PySem.W
def xno(K:Frag)(C:Addr):Bool:=xmk K C&&(match K.lookup C with
 | some ⟨_,_,.cls cd,_⟩=>tailIn K xr cd.mro
 | _=>false)
section
variable {prog:Program}{w:World}{A:Around}{E:VP}{K:Frag}{C:Addr}{h:Heap}{g:Array GenState}{d:Drawn}{t:Nat}{os:OsState}
theorem aiC(X:K.In h)(q:xno K C=true)(hz:us.length<=sizeLine)(k:∀ h' e,Heap.MadeExcOf h h' e (.ref C) us->Q (.ref e) ⟨h',g,d,t,os⟩) :
  wpAny (model prog w) A (call (.ref C) us) Q E ⟨h,g,d,t,os⟩:=by
 unfold xno at q;rw[ae00] at q;obtain⟨q1,q2⟩:=q;obtain⟨nm,q',N,bs,bm,hdct,sn,sub,ab,col,dd,k0,k1,k2,k3,k5,hC,T⟩:=abW X q1
 split at q2
 ·rename_i c0 d0 cd sl hk
  have e1:=X _ _ hk;rw[hC] at e1;cases e1;have T2:=tail_of_in X q2;generalize hl:(Value.ref C::bm)=l at T2;cases T2 with
  | base=>cases hl
  | own hA hN hi _ =>
   cases hl;rw[hC] at hA;cases hA;exact wpAny_call_exc_subT PySem.F.excBase_ValueError T hC hN hi k hz
 ·cases q2
end
end XO
namespace D
open L2 XO
section
variable {X:Cx}{pos p cpos np hpos:Pos}{k:Nat}{f C:Addr}{x:Str}{e:Expr}{es:List Expr}{t:TAd}{E:XE}
def wY(C:Addr)(E:XE)(t:TAd)(_:Ed)(τ:DS)(M:MH):Prop:=t τ M λ ws M1=>ws.length<=1000/\∀ a,M1 a=none->E a τ (bC M1 a (.exc C []))
variable {body suite:List Stmt}{b0:Stmt}{hs:List ExceptHandler}{th rest:Addr->TSd}{ts:TSd}
end
section
variable {X:Cx}{K:FG}
variable {o e:Expr}{td te:TD}{apos cpos:Pos}
theorem abj:∀ zs:List Str,bu K H (cV zs) (zs.map V.str)
 | []=>.nil
 | z::zs=>.cons (by simp[aQ,aN]) (abj zs)
end
section
variable {X:Cx}{e st:Expr}{te:TE}{ts:TO}{pos p2:Pos}
end
section
variable {X:Cx}{e st:Expr}{te:TD}{ts:TOd}{pos p2:Pos}
end
section
variable {X:Cx}{K:FG}
end
section
variable {X:Cx}{pos p cpos apos np hpos p2:Pos}{k:Nat}{f C:Addr}{x y:Str}{e o st:Expr}{es:List Expr}{t:TAd}{E:XE}{body suite:List Stmt}{b0:Stmt}{hs:List ExceptHandler}{rest:Addr->TSd}{ts:TSd}{fd:FuncData}{ps:List Str}{sp:SpX}{td te:TD}{to:TOd}
theorem oB(L:Lk X E)(xc:XC X.K C)(xn:xno X.K C=true)(ty:W.typeIn X.K (.ref C)=some (.type "type"))(kc:W.keepIn X.K (.ref C)=true)(hr:eO k X.A)(hg:Gl X x)(hm:X.mg x=some (.ref C))(ha:Jd (PAd X (e::es) t))
  (hdb:ND x:=by decide)(h1:eF e=false:=by rfl)(h2:(es.all λ e=>!eF e)=true:=by rfl):Jd (PSd X (.Raise (some (.Call (.Name x p) (e::es) [] cpos)) none pos) (wY C E t)):=⟨have ha:=ha.h;by
 intro pins s σ H D I h;obtain⟨τ,M,Dd,A,h,_⟩:=h;rw[arm_exec_Raise];refine wb0 (wpAny_standAt (ae3 (K:=X.K) hr.hd (wb0 ?_)));refine wpAny_Call_Name_kw (iL I hg hm ?_ hdb);refine W.callWith_K (h₀:=X.base) I.ok.mod.kin kc (thn (ha cpos pins s σ H (λ vs H1=>∃ ws M1,Kp H H1/\bu X.K H1 ws vs/\cX X.K H1 M1/\ws.length<=1000/\∀ a,M1 a=none->E a τ (bC M1 a (.exc C []))) I
  ⟨τ,M,_,A,h,λ vs H1 ws M1 kp r m q=>⟨ws,M1,kp,r,m,q⟩⟩) λ us s1 ⟨vs,H1,I1,r,ws,M1,kp,rw1,m1,hz,q⟩=>⟨I1.kIn,?_⟩) (bV e es X.env h1) (cI cpos X.env es h2)
 refine aiC (h:=s1.heap) (g:=s1.gens) (d:=s1.drawn) (t:=s1.toks) (os:=s1.os) I1.kIn xn (by show us.length<=_;have:=r.length;have:=rw1.length;have:=s16;omega) λ h' a hq105=>?_;obtain⟨kk,hn,T,oa,_,_⟩:=hq105;refine wb0 (wpAny_standAt (wp0 ?_));have e0:H1 a=none:=rY I1.hok hn;have oa':h'.get? a=some (vA C none #[.ref T,.none,.none,.none,.bool false,.none]):=oa;have I5:Inv X pins σ (upd H1 a (.ext (XF a C none true))) {s1 with heap:=h'}:=Inv.akn (t':=s1.toks) I1 kk hn (afZ oa' λ _=>rfl);have k5:Kp H1 (upd H1 a (.ext (XF a C none true))):=Kp.new e0;have m5:cX X.K (upd H1 a (.ext (XF a C none true))) (bC M1 a (.exc C [])):=λ b mo z=>by
  by_cases hb:b=a
  ·subst hb;rw[ao] at z;cases z;exact⟨_,none,aA,λ h ⟨vs,y,c⟩=>⟨vs,y,λ _=>c rfl⟩,.inl ⟨rfl,rfl⟩⟩
  ·rw[ar hb] at z;exact(m1 b mo z).keep k5 λ u y=>by rw[aB hb];exact y
 refine⟨a,C,none,_,rfl,I5.kIn,xc.x,ty,oa',rfl,?_⟩;exact L pins σ _ _ a τ _ I5 ⟨C,none,_,true,aA,oa',.inl rfl,λ _=>rfl⟩ (A.go (kp.trans k5) m5) (q a (m1.free e0))⟩
end
end D
namespace ZS
end ZS
namespace D
open L2
section
variable {X:Cx}{K:FG}
end
end D
namespace RT
end RT
namespace D
open L2
section
variable {X:Cx}{K:FG}
variable {o e:Expr}{td:TD}{apos cpos:Pos}
variable {a:Expr}{ta:TA}{p p2 pos pos2:Pos}
end
end D
namespace L2
open PySem.W (envX kla_obj kla_fn)
section
variable {X:Cx}{pins:PN}{σ:St}{H:Hp}{s:Shared}{sc:Scope}{x q:Str}{fr:List Nat}{cl:List (Str×Addr)}{f c:Addr}
end
section
variable {X:Cx}{pins:PN}{σ:St}{H:Hp}{s:Shared}
end
end L2
namespace D
open L2
open PySem.W (kla_obj kla_fn)
section
variable {X:Cx}{K:FG}
theorem aac{M:MH}{a:Addr}{o:MO}(h:M a=some o):bC M a o=M:=by
 funext b
 by_cases e:b=a
 ·rw[e,ao,h]
 ·rw[ar e]
variable {P cd:Addr}{q x:Str}{lpos pos p kpos:Pos}{params:Arguments}{body o:Expr}{sc:Scope}{fr:List Nat}{to tb:TD}{k:Nat}
end
end D
namespace L2
end L2
namespace D
open L2
section
variable {P:Program}{w:World}{K:FG}{mg:Str->Option Value}{base:Heap}
end
section
variable {X:Cx}{K:FG}
variable {o e:Expr}{to:TE}{td te:TD}{apos cpos p pos:Pos}
end
end D
set_option maxHeartbeats 0
namespace D
open L2
section
variable {X:Cx}{a b:Expr}{rest:List Expr}{pos:Pos}{ta tb:TE}
end
section
variable {X:Cx}{K:FG}{e:Expr}{te:TE}{p pos kpos kp:Pos}{j:Nat}
end
section
variable {X:Cx}{a b o e:Expr}{rest:List Expr}{ta tb td te:TD}{apos cpos p pos kpos kp:Pos}{j:Nat}
end
section
variable {X:Cx}{K:FG}{pins:PN}{σ:St}{H:Hp}{s:Shared}
end
section
variable {K:FG}
def ae2(w w':W)(M:MH)(Q:QD):Prop:=∃ a b xs ys,w=.m a/\w'=.m b/\M a=some (.lst xs)/\M b=some (.lst ys)/\xs.length+ys.length<=sizeLine/\∀ p,M p=none->Q (.m p) (bC M p (.lst (xs++ys)))
theorem bu.app:∀ {xs:List W} {vs:List V} {ys:List W} {us:List V},bu K H xs vs->bu K H ys us->bu K H (xs++ys) (vs++us)
 | _,_,_,_,.nil,h=>h
 | _,_,_,_,.cons a b,h=>.cons a (bu.app b h)
theorem aed:OpD K (ajj K) ae2:=by intro x y H w w' M Qd Q r1 r2 m ⟨a,b,xs,ys,e1,e2,ha,hb,hz,q⟩ k;subst e1 e2;obtain⟨vs,e3,p1⟩:=m _ _ ha;obtain⟨us,e4,p2⟩:=m _ _ hb;have l1:=bu.length p1;have l2:=bu.length p2;refine⟨a,b,vs,us,r1,r2,.of e3,.of e4,by omega,λ p hp=>?_⟩;have kp:Kp H (upd H p (.lst (vs++us))):=Kp.new hp;exact k _ _ (.m p) _ kp rfl (m.put (mo:=.lst (xs++ys)) kp ⟨_,aA,bu.keep kp (bu.app p1 p2)⟩) (q p (m.free hp))
end
abbrev PFn(K:FG)(x:Str)(st:Stmt):Prop:=∃ (f:Addr) (oc kV dc pm cd ct:Value) (od an:Option Addr) (sl:Array (Option Value)),W.nsIn K mainGlobals x=some (some (.ref f))/\K.lookup f=some ⟨oc,od,.func (W.fnOf x x (bh st) (aY st) (ak st) .none kV dc pm an cd ct),sl⟩/\W.codeIn K cd x=true/\W.keepIn K (.ref f)=true
abbrev PMf(K:FG)(C:Addr)(m x:Str)(st:Stmt):Prop:=∃ (f:Addr) (oc kV dc pm cd ct:Value) (od an:Option Addr) (sl:Array (Option Value)),W.findIn K (.ref C) m=some (some (.ref f))/\W.isFn K (.ref f)=true/\K.lookup f=some ⟨oc,od,.func (W.fnOf m x (bh st) (aY st) (ak st) .none kV dc pm an cd ct),sl⟩/\W.codeIn K cd x=true/\W.keepIn K (.ref f)=true
theorem ah2{K:FG}{x:Str}{st:Stmt}{f:Addr}{oc kV dc pm cd ct:Value}{od an:Option Addr}{sl:Array (Option Value)}(a:W.nsIn K mainGlobals x=some (some (.ref f)))(l:K.lookup f=some ⟨oc,od,.func (W.fnOf x x (bh st) (aY st) (ak st) .none kV dc pm an cd ct),sl⟩)(c:W.codeIn K cd x=true)(k:W.keepIn K (.ref f)=true):PFn K x st:=⟨_,_,_,_,_,_,_,_,_,_,a,l,c,k⟩
theorem aik{K:FG}{C:Addr}{m x:Str}{st:Stmt}{f:Addr}{oc kV dc pm cd ct:Value}{od an:Option Addr}{sl:Array (Option Value)}(a:W.findIn K (.ref C) m=some (some (.ref f)))(i:W.isFn K (.ref f)=true)(l:K.lookup f=some ⟨oc,od,.func (W.fnOf m x (bh st) (aY st) (ak st) .none kV dc pm an cd ct),sl⟩)(c:W.codeIn K cd x=true)(k:W.keepIn K (.ref f)=true):PMf K C m x st:=⟨_,_,_,_,_,_,_,_,_,_,a,i,l,c,k⟩
theorem PFn.fn{K:FG}{h:Heap}{mg:Str->Option Value}{x:Str}{st:Stmt}{ps:List Str}(p:PFn K x st)(X:K.In h)(G:h.Ns mainGlobals mg)
  (b:∀ (kV doc pm:Value) (an:Option Addr) (cdv ct:Value) (us:List Value),us.length=ps.length->bindArgs (W.fnOf x x (bh st) (aY st) (ak st) .none kV doc pm an cdv ct) ⟨us,[]⟩=pure (ps.zip us)):∃ f fd,Fn K mg x st ps f fd:=
 let ⟨f,_,_,_,_,_,_,_,_,_,a,l,c,k⟩:=p; ⟨f,_,agK X G a l c k b⟩
theorem PMf.mf{K:FG}{C:Addr}{m x:Str}{st:Stmt}{ps:List Str}(p:PMf K C m x st)
  (b:∀ (kV doc pm:Value) (an:Option Addr) (cdv ct:Value) (us:List Value),us.length=ps.length->bindArgs (W.fnOf m x (bh st) (aY st) (ak st) .none kV doc pm an cdv ct) ⟨us,[]⟩=pure (ps.zip us)):∃ f fd,Mf K C m x st ps f fd:=
 let ⟨f,_,_,_,_,_,_,_,_,_,a,i,l,c,k⟩:=p; ⟨f,_,alD a i l c k b⟩
abbrev ZZ(P:Program)(w:World)(K:FG)(mg:Str->Option Value)(base:Heap)(F:Addr->FuncData->Prop)(n:Nat)(ps:List Str)(sp:SpD):Prop:=∃ f fd,F f fd/\bK P w K mg base CX0 n f fd ps (dH K sp)
end D
namespace L2
structure rf(P:Program)(w:World)(K:FG)(mg:Str->Option Value)(base:Heap)(CX:CXT)(k:Nat)(f:Addr)(fd:FuncData)(ps:List Str)(sp:Sp):Prop where
 len:∀ vs H Q E,sp vs H Q E->vs.length=ps.length
 run:∀ (A:Around) (outer:List Env) (s:Shared) (H:Hp) (args:Args) (us:List Value) (vs:List V) (Q:VK) (E:XK),d4 k A->adp P w K mg base A outer s H->BindsTo s fd args (ps.zip us)->Vals vs us->sp vs H Q E ->
  codeAny (model P w) A (.call (.ref f) args) (CR CX outer P w H s Q E) s
abbrev Cx.loud(X:Cx):Cx:={X with calm:=false}
theorem zv{CX:CXT}{P:Program}{w:World}{K:FG}{mg:Str->Option Value}{base:Heap}{N ps:List Str}{qual:Str}{scope:Scope}{f:Addr}{cd:Value}{A:Around}{outer:List Env}{s s1:Shared}{H:Hp}{E:XK}{us:List Value}{vs:List V}
  (S:aL N ps scope)(e0:adp P w K mg base A outer s H)(hl:vs.length=ps.length)(r:Vals vs us)
  (x:InCallC s s.heap.objs.size (bindL (envOfC qual scope s.heap.objs.size f cd).kindOf (ps.zip us) λ _=>none) (cellsFrom (s.heap.objs.size+1) scope.names []) (bindC (envOfC qual scope s.heap.objs.size f cd).kindOf (ps.zip us) λ _=>none) s1) :
  Inv (vD CX P w K mg base N qual scope f cd A outer s H E).loud [] (start N vs) H s1:=by
 have I:=tK (CX:=CX) (E:=E) (A:={A with handled:=none}) S rfl ⟨e0.frames,e0.mod,e0.bs,e0.bsz,e0.sI,e0.frf,e0.hok,e0.bare⟩ hl r x;exact⟨⟨I.ok.mod,I.ok.kind,I.ok.glob,I.ok.blt,I.ok.above,I.ok.inj,I.ok.has,I.ok.cab,(λ z=>nomatch z),I.ok.frames,I.ok.stk,I.ok.exf,I.ok.bs,I.ok.bsz,I.ok.noex,I.ok.exfs,I.ok.sI,I.ok.frf⟩,I.os,I.bare,I.base,I.loc,I.cell,I.free,I.freeC,I.pin,I.hok,I.len⟩
theorem ajJ{CX:CXT}{P:Program}{w:World}{K:FG}{mg:Str->Option Value}{base:Heap}{k:Nat}{f:Addr}{name qual:Str}{params:Arguments}{body:List Stmt}{scope:Scope}{dV kV doc pm cdv ct oc:Value}{an od:Option Addr}
  {osl:Array (Option Value)}{N ps:List Str}{sp:Sp}(lk:K.lookup f=some ⟨oc,od,.func (W.fnOf name qual params body scope dV kV doc pm an cdv ct),osl⟩)(hcd:W.codeIn K cdv qual=true)(S:aL N ps scope)
  (len:∀ vs H Q E,sp vs H Q E->vs.length=ps.length)
  (hbody:∀ (A:Around) (outer:List Env) (s:Shared) (H:Hp) (vs:List V) (Q:VK) (E:XK),d4 k (A.deeper (envOfC qual scope s.heap.objs.size f cdv))->sp vs H Q E ->
   ∃ t,PSs (vD CX P w K mg base N qual scope f cdv A outer s H E).loud body t/\t {nx:=λ _ H'=>Q .non H',rt:=Q} (start N vs) H) :
  rf P w K mg base CX (k+1) f (W.fnOf name qual params body scope dV kV doc pm an cdv ct) ps sp:=by
 refine⟨len,λ A outer s H args us vs Q E hr e0 hb r hsp=>?_⟩;have hl:=len _ _ _ _ hsp;have KX:K.In s.heap:=e0.mod.kin.keeps λ b o e=>(e0.bs b o e).1;have lim:s.heap.NoLimit:=e0.mod.nolimit.keeps λ b o e=>(e0.bs b o e).1;have hkind:∀ y∈ps.zip us,scope.names.lookup y.1=some .local\/(scope.names.lookup y.1=some .cell/\((cellsFrom (s.heap.objs.size+1) scope.names []).lookup y.1).isSome=true):=λ⟨n,v⟩ hy=>by
  rcases S.par n (List.of_mem_zip hy).1 with q | q
  ·exact .inl q
  ·exact .inr ⟨q,W.cellsFrom_some _ _ _ (.inl q)⟩
 refine codeAny_call_function hr.depth (KX _ _ lk) rfl S.co S.gen rfl (W.codeRec_of KX hcd) (hb _ _ _ _ ?_);refine wpAny_newFunctionEnv_cells S.kind hkind λ env he s1 x=>?_;subst he;refine⟨lim.keeps x.toInCall.keep,codeAny_func ?_⟩;obtain⟨t,ht,hq⟩:=hbody A outer s H vs Q E (hr.deeper _) hsp;have I:=zv (CX:=CX) (E:=E) S e0 hl r x;refine wpAny_mono (ht [] s1 (start N vs) H _ I hq) (λ fl s' hs=>?_) λ e s' hs=>hs;have fin:∀ {σ':St} {H':Hp} {v:V} {u:Value},Inv (vD CX P w K mg base N qual scope f cdv A outer s H E).loud [] σ' H' s'->RelV v u->Q v H'->CE outer P w H s Q u s':=
  λ {σ' H' v u} J rv q=>⟨v,H',J.os,J.bare,J.base,J.hok,rv,q⟩
 cases fl with
 | ret u =>
  obtain⟨v,σ',H',J,rv,q⟩:=hs;exact fin J rv q
 | next =>
  obtain⟨σ',H',J,q⟩:=hs;exact fin (v:=V.non) (u:=Value.none) J rfl q
 | brk =>
  obtain⟨_,_,_,q⟩:=hs;exact False.elim q
 | cont =>
  obtain⟨_,_,_,q⟩:=hs;exact False.elim q
theorem agF(F:rf X.prog X.w X.K X.mg X.base CX k f fd ps sp)(hr:d4 k X.A)(hb:Binds X.K fd ps ds)(hd:Vals dvs ds)(hx:Passes CX X E)
  (I:Inv X pins σ H s)(r:Vals vs us)(h:sp (vs++dvs) H Q E):wpAny (model X.prog X.w) X.A (call (.ref f) us) (EP X pins σ Q) X.xe s:=by
 have r2:Vals (vs++dvs) (us++ds):=r.append hd;have hl:(us++ds).length=ps.length:=by rw[<- r2.length];exact F.len _ _ _ _ h
 refine wpAny_call (codeAny_mono (F.run X.A X.stack s H ⟨us,[]⟩ (us++ds) (vs++dvs) Q E hr I.afU (hb s us I.kIn hl) r2 h) λ r s' hq=>?_);cases r with
 | error e=>exact hx pins σ H s e s' I hq
 | ok fl =>
  cases fl with
  | ret u=>exact I.after hq
  | next=>exact False.elim hq
  | brk=>exact False.elim hq
  | cont=>exact False.elim hq
theorem adN(F:rf X.prog X.w X.K X.mg X.base CX k f fd ps sp)(hr:d4 k X.A)(hg:Gl X x)(hm:X.mg x=some (.ref f))(hk:W.keepIn X.K (.ref f)=true)(hb:Binds X.K fd ps ds)(hd:Vals dvs ds)(hx:Passes CX X E)
  (ha:PA X (e::es) t)(hdb:ND x:=by decide)(he:starEach (e::es) X.env=(false,eval e X.env)::starEach es X.env:=by rfl)(hpl:(backTo pos (starEach es X.env)).any (·.1)=false:=by rfl) :
  PE X (.Call (.Name x p) (e::es) [] pos) (ahR sp dvs E t):=by
 intro pins s σ H Q I h;refine wpAny_Call_Name_kw (iL I hg hm ?_ hdb);refine W.callWith_K (h₀:=X.base) I.ok.mod.kin hk (thn (ha pos pins s σ H _ I h) λ us s1 ⟨vs,H1,I1,r,q⟩=>⟨I1.kIn,?_⟩) he hpl;exact agF F hr hb hd hx I1 r q
section
variable {P:Program}{w:World}{K:FG}{mg:Str->Option Value}{base:Heap}
theorem Fun.okH{x qual:Str}{st:Stmt}{f:Addr}{fd:FuncData}{N ps:List Str}{k:Nat}{sp:Sp}(F:Fun K x qual st f fd)(S:aL N ps (ak st))(len:∀ vs H Q E,sp vs H Q E->vs.length=ps.length)
  (hbody:∀ (cdv:Value) (A:Around) (outer:List Env) (s:Shared) (H:Hp) (vs:List V) (Q:VK) (E:XK),d4 k (A.deeper (envOfC qual (ak st) s.heap.objs.size f cdv))->sp vs H Q E ->
   ∃ t,PSs (vD CX0 P w K mg base N qual (ak st) f cdv A outer s H E).loud.nox (aY st) t/\t {nx:=λ _ H'=>Q .non H',rt:=Q} (start N vs) H):rf P w K mg base CX0 (k+1) f fd ps sp:=by
 obtain⟨oc,od,kV,doc,pm,an,cdv,ct,osl,rfl,lk,hcd⟩:=F.ex;refine ajJ lk hcd S len λ A outer s H vs Q E hr hsp=>?_;obtain⟨t,h,q⟩:=hbody cdv A outer s H vs Q E hr hsp;exact⟨t,h.nox,q⟩
end
end L2
namespace D
open L2
section
variable {P:Program}{w:World}{K:FG}{mg:Str->Option Value}{base:Heap}
theorem ag1{x qual:Str}{st:Stmt}{N ps:List Str}{k:Nat}{sp:SpD}{t:TSd}(F:Fun K x qual st f fd)(S:aL N ps (ak st))(len:∀ ws M Q,sp ws M Q->ws.length=ps.length)
  (hbody:∀ (cdv:Value) (A:Around) (outer:List Env) (s:Shared) (H:Hp) (E:XK),d4 k (A.deeper (envOfC qual (ak st) s.heap.objs.size f cdv)) ->
   pU (vD CX0 P w K mg base N qual (ak st) f cdv A outer s H E).loud.nox (aY st) t)
  (read:∀ ws M Q,sp ws M Q->t {nx:=λ _ M'=>Q (.d .none) M',rt:=Q} (gA N ws) M):rf P w K mg base CX0 (k+1) f fd ps (dH K sp):=by
 refine F.okH S (λ vs H Q E h=>?_) (λ cdv A outer s H vs Q E hr h=>?_)
 ·obtain⟨ws,M,Qd,r,_,q,_⟩:=h;rw[<- r.length];exact len _ _ _ q
 ·obtain⟨ws,M,Qd,r,m,q,kk⟩:=h;refine⟨_,hbody cdv A outer s H E hr,gA N ws,M,_,nD r m,read ws M Qd q,λ σ' H' τ' M' kp A' q'=>?_,λ v H' w' M' kp r' m' q'=>?_,λ σ' H' τ' M' kp A' q'=>q'.elim,λ σ' H' τ' M' kp A' q'=>q'.elim⟩
  ·exact kk _ H' _ M' kp (by simp[aQ,aN]) A'.mem q'
  ·exact kk v H' w' M' kp r' m' q'
end
theorem ad1(F:rf X.prog X.w X.K X.mg X.base CX0 k f fd ps (dH X.K sp))(hr:d4 k X.A)(hg:Gl X x)(hm:X.mg x=some (.ref f))(hk:W.keepIn X.K (.ref f)=true)(hb:Binds X.K fd ps [])
  (ha:PAd X (e::es) t)(hdb:ND x:=by decide)(he:starEach (e::es) X.env=(false,eval e X.env)::starEach es X.env:=by rfl)(hpl:(backTo pos (starEach es X.env)).any (·.1)=false:=by rfl) :
  PD X (.Call (.Name x p) (e::es) [] pos) (bH sp t):=ie (adN (E:=E0) (dvs:=[]) F hr hg hm hk hb .nil aa6 ha hdb he hpl) λ σ H Q h=>by
 obtain⟨τ,M,Qd,A,h,k⟩:=h;exact⟨τ,M,_,A,h,λ vs H1 ws M1 kp r1 m1 q1=>⟨ws,M1,Qd,by rw[List.append_nil];exact r1,m1,q1,kgo k kp⟩⟩
theorem akH(F:rf X.prog X.w X.K X.mg X.base CX0 k f fd ps (dH X.K sp))(hr:d4 k X.A)(hg:Gl X x)(hm:X.mg x=some (.ref f))(hk:W.keepIn X.K (.ref f)=true)(hb:L2.Binds X.K fd ps [])
  (ha:Jd (PAd X (e::es) t))(hdb:ND x:=by decide)(h1:eF e=false:=by rfl)(h2:(es.all λ e=>!eF e)=true:=by rfl) :
  Jd (PD X (.Call (.Name x p) (e::es) [] pos) (bH sp t)):=⟨D.ad1 F hr hg hm hk hb ha.h hdb (bV e es X.env h1) (cI pos X.env es h2)⟩
open XO
def aev(C:Addr)(sp:SpX)(E:XE)(t:TAd)(τ:DS)(M:MH)(Q:QD):Prop:=t τ M λ ws M1=>∀ a,M1 a=none->sp (.m a::ws) (bC M1 a (.ins C [])) (λ v M2=>v=.d .none/\Q (.m a) M2) λ b M'=>E b τ M'
section
variable {X:Cx}{K:FG}
end
theorem abR(L:Lk X E)(Mk':Mk X.K C f)(F:bK X.prog X.w X.K X.mg X.base (CXE X.prog X.w) k f fd ps (eN X.K sp))(hr:eO (k+1) X.A)(hg:Gl X x)(hm:X.mg x=some (.ref C))(hb:L2.Binds X.K fd ps [])
  (ha:Jd (PAd X (e::es) t))(hdb:ND x:=by decide)(h1:eF e=false:=by rfl)(h2:(es.all λ e=>!eF e)=true:=by rfl) :
  Jd (PD X (.Call (.Name x p) (e::es) [] pos) (aev C sp E t)):=⟨have ha:=ha.h;by
 intro pins s σ H Q I h;obtain⟨τ,M,Qd,A,h,k⟩:=h;refine wpAny_Call_Name_kw (iL I hg hm ?_ hdb);refine W.callWith_K (h₀:=X.base) I.ok.mod.kin Mk'.kp (thn (ha pos pins s σ H (λ vs H1=>∃ ws M1,Kp H H1/\bu X.K H1 ws vs/\cX X.K H1 M1/\∀ a,M1 a=none->sp (.m a::ws) (bC M1 a (.ins C [])) (λ v M2=>v=.d .none/\Qd (.m a) M2) λ b M'=>E b τ M') I
  ⟨τ,M,_,A,h,λ vs H1 ws M1 kp r m q=>⟨ws,M1,kp,r,m,q⟩⟩) λ us s1 ⟨vs,H1,I1,r,ws,M1,kp,rw,m1,q⟩=>⟨I1.kIn,?_⟩) (bV e es X.env h1) (cI pos X.env es h2)
 refine abi (E:=λ v _ H'=>∃ a M',v=.ref a/\Kp H1 H'/\cX X.K H' M'/\E a τ M') Mk' F hr hb I1 r (λ a dx ha hd hn=>?_) λ H2 s2 u s' I2 hx=>?_
 ·obtain⟨kp2,m2⟩:=acJ (X:=X) (C:=C) m1 ha hd hn;exact⟨.m a::ws,_,_,_,.cons rfl (rw.keep kp2),m2,q a (m1.free ha),λ v H' w M' kp3 r3 m3 hq106=>by obtain⟨e3,q3⟩:=hq106;subst e3;simp only[aQ,aN] at r3;exact⟨r3,k _ H' (.m a) M' ((kp.trans kp2).trans kp3) rfl m3 q3⟩,λ b H' M' kp' m' e'=>⟨b,M',rfl,kp2.trans kp',m',e'⟩⟩
 ·obtain⟨b,H',rfl,os,br,un,hok,air,q⟩:=hx;obtain⟨b',M',e,kp',m',q'⟩:=q;cases e;exact L pins σ H' s' b τ M' (I2.afb os un hok br (λ b z=>absurd z (by simp))) air (A.go (kp.trans kp') m') q'⟩
end D
namespace PySem.AutoSeq1
open PySem.MeetsSeq PySem.MeetsSeq2 PySem.MeetsSeq3 PyProof.Rows
end PySem.AutoSeq1
namespace D
open L2
section
variable {P:Program}{w:World}{K:FG}{mg:Str->Option Value}{base:Heap}
end
end D
namespace PySem.AutoSeq1
open PySem.MeetsSeq PySem.MeetsSeq2 PySem.MeetsSeq3 PyProof.Rows
theorem ac0(a:Int)(t:Tok)(l:Addr)(items:Array Value)(n:Nat)(sl:Array (Option Value)):Meets (Builtin.«int.__rmul__» ⟨[.int a t,.ref l],[]⟩) (λ _ R s=>s.heap.get? l=some {cls:=.type "list",dict:=none,data:=.seq items n,slots:=sl}/\R (.ok (.ret .notImplemented)) s):=
 .of_wp λ prog w A R s h=>by
  obtain⟨hp,g,d,tk,os⟩:=s;obtain⟨hl,h⟩:=h;have f1:=idx_int;have f2:=sub_tuple_tuple;have f3:=sub_list_list;have f4:=sub_tuple_list;have f5:=sub_list_tuple;
  wp_walk using wpAny_loadPart' hl;exact⟨_,rfl,h⟩
theorem ahf(l:Addr)(items:Array Value)(n:Nat)(x:Int)(u:Tok)(sl:Array (Option Value))(h1:¬(!Builtin.List.listFitsIndex x)=true)(h2:¬items.size * x.toNat > (2 ^ 63-1) / 8)(h3:¬Builtin.List.listTooLong (items.size * x.toNat)=true)
  (h4:¬(List.foldl (λ x1 x2=>x1++x2) #[] (List.replicate (if items.isEmpty=true then 0 else x.toNat) items)).size > sizeLine) :
  Meets (Builtin.«list.__mul__» ⟨[.ref l,.int x u],[]⟩) (λ _ R s=>s.heap.get? l=some {cls:=.type "list",dict:=none,data:=.seq items n,slots:=sl}/\R (.ok (.ret (.ref s.heap.objs.size))) {s with heap:=s.heap.push {cls:=.type "list",data:=.seq (List.foldl (λ x1 x2=>x1++x2) #[] (List.replicate (if items.isEmpty=true then 0 else x.toNat) items))}}):=
 .of_wp λ prog w A R s h=>by
  obtain⟨hp,g,d,tk,os⟩:=s;obtain⟨hl,h⟩:=h;have f1:=idx_int;have f2:=sub_tuple_tuple;have f3:=sub_list_list;have f4:=sub_tuple_list;have f5:=sub_list_tuple;
  wp_walk using wpAny_loadPart' hl;rw[if_neg h4];wp_walk using wpAny_loadPart' hl;exact⟨_,rfl,h⟩
end PySem.AutoSeq1
namespace D
open L2
section
variable {X:Cx}{K:FG}
def aiO(K:FG):R2:=λ x y H Q=>∃ l k xs,x=.ref l/\y=.int k/\SqL K H l xs/\-(2 ^ 63)<=k/\k<2 ^ 63/\xs.length * k.toNat<=sizeLine /\
 ∀ p,H p=none->Q (.ref p) (upd H p (.lst (List.replicate k.toNat xs).flatten))
theorem ag2:OpR X (binaryOp .Mult) (aiO X.K):=by
 intro pins s σ H x y v u Q I rx ry h;obtain⟨l,k,xs,rfl,rfl,hH,h1,h2,hz,q⟩:=h;cases rx;obtain⟨t,rfl⟩:=ry;obtain⟨its,r,⟨o,n,e0,c2,d2,s2⟩,z⟩:=I.list hH;have hl:=r.length;have e:s.heap.get? l=some {cls:=.type "list",dict:=none,data:=.seq its.toArray n,slots:=o.slots}:=by rw[e0];cases o;simp_all
 have hlen:its.toArray.size * k.toNat<=sizeLine:=by rw[List.size_toArray,<- hl];exact hz
 have hcap:¬ its.toArray.size * k.toNat > (2 ^ 63-1) / 8:=by
  have:(sizeLine:Nat)<=(2 ^ 63-1) / 8:=by decide
  omega
 have hfit:¬ (!Builtin.List.listFitsIndex k)=true:=by rw[fitsIndex_both h1 h2];exact ft0
 have hlong:¬ Builtin.List.listTooLong (its.toArray.size * k.toNat)=true:=by rw[ac2 hlen];exact ft0
 have hnew:List.foldl (λ x1 x2=>x1++x2) #[] (List.replicate (if its.toArray.isEmpty=true then 0 else k.toNat) its.toArray)=(List.replicate k.toNat its).flatten.toArray:=by
  have f0:∀ m:Nat,List.foldl (λ x1 x2=>x1++x2) #[] (List.replicate m its.toArray)=(List.replicate m its).flatten.toArray:=λ m=>by have:=foldl_rep its m [];rw[List.nil_append] at this;exact this
  rw[f0];cases its with
  | nil=>simp
  | cons a r'=>rw[if_neg (by simp)]
 have h4:¬(List.foldl (λ x1 x2=>x1++x2) #[] (List.replicate (if its.toArray.isEmpty=true then 0 else k.toNat) its.toArray)).size > sizeLine:=by rw[hnew,List.size_toArray,len_rep,Nat.mul_comm,<- hl];omega
 refine wpAny_binaryOp_repeat_ref (T:= "list") (U:= "int") (by decide) ⟨_,e,rfl⟩ (λ s'=>typeIs_int s' k t) noFill_list_mul F.fills_int_mul F.slot_int_rmul repeat_list F.slot_int_index.lookup
  (call_meets F.slot_int_rmul (typeIs_int s k t) F.entry_int_rmul (F.args_int_rmul_2 _ _) (AutoSeq1.ac0 k t l its.toArray n _)
   ⟨e,rfl,⟨_,e,rfl⟩,call_meets F.slot_list_mul ⟨_,e,rfl⟩ F.entry_list_mul (F.args_list_mul_2 _ _) (AutoSeq1.ahf l its.toArray n k t _ hfit hcap hlong h4) ⟨e,?_⟩⟩)
 rw[hnew];exact⟨.ref _,_,I.al8 (t':=s.toks) (r.rep k.toNat) (by rw[len_rep,Nat.mul_comm];exact hz),rfl,q _ I.fresh⟩
def aeY(w w':W)(M:MH)(Q:QD):Prop:=∃ ds n,w=.d (.list ds)/\w'=.d (.int n)/\0<=n/\n<=1000/\ds.length<=1000/\∀ p,M p=none->Q (.m p) (bC M p (.lst ((List.replicate n.toNat ds).flatten.map W.d)))
theorem adv:OpD K (aiO K) aeY:=by
 intro x y H w w' M Qd Q r1 r2 m ⟨ds,n,e1,e2,h0,h1,hl,q⟩ k;subst e1 e2;simp only[aQ,aN] at r1 r2;obtain⟨a,vs,e,hs,ra⟩:=r1;have hlen:=ra.length;refine⟨a,n,vs,e,r2,hs.sq,by omega,by omega,?_,λ p hp=>?_⟩
 ·have h2:vs.length * n.toNat<=1000 * 1000:=Nat.mul_le_mul (by omega) (by omega);have:=s16;omega
 ·have kp:Kp H (upd H p (.lst (List.replicate n.toNat vs).flatten)):=Kp.new hp;refine k _ _ (.m p) _ kp rfl (m.put (mo:=.lst ((List.replicate n.toNat ds).flatten.map W.d)) kp ⟨_,aA,?_⟩) (q p (m.free hp));rw[List.map_flatten,List.map_replicate];exact(xP ra.ws n.toNat).keep kp
end
end D
namespace XO
open PySem.W
section
variable {prog:Program}{w:World}{A:Around}{E:VP}{s:Shared}{K:Frag}{env:PySem.Env}{e h0 C0:Addr}{dct0:Option Addr}{vs0:Array Value}
end
end XO
namespace L2
open XO
section
variable {P:Program}{w:World}{K:FG}{mg:Str->Option Value}{base:Heap}{C f:Addr}{fd:FuncData}{qual:Str}{st:Stmt}
end
end L2
namespace D
open L2 XO
section
variable {X:Cx}{pos p cpos:Pos}{k:Nat}{f C:Addr}{fd:FuncData}{ps fs:List Str}{x:Str}{e:Expr}{es:List Expr}{t:TAd}{E:XE}
variable {body suite:List Stmt}{b0:Stmt}{hs:List ExceptHandler}{th rest:Addr->TSd}{np hpos:Pos}
end
section
variable {X:Cx}{pos p cpos:Pos}{k:Nat}{f C:Addr}{fd:FuncData}{ps fs:List Str}{x:Str}{e:Expr}{es:List Expr}{t:TAd}{E:XE}
variable {suite:List Stmt}{b0:Stmt}{hs:List ExceptHandler}{rest:Addr->TSd}{np hpos:Pos}
end
section
variable {X:Cx}{K:FG}
def afr:V->List V->Hp->VK->Prop:=λ x vs H Q=>∃ (l:Addr) (zs:List Str) (z:Str),x=.ref l/\vs=[.str z]/\H l=some (.lst (zs.map V.str))/\z∈zs/\Q .non (upd H l (.lst ((zs.erase z).map V.str)))
theorem aes{α β:Type}(f:α->β):∀ (l:List α) (j:Nat),(l.map f).eraseIdx j=(l.eraseIdx j).map f
 | [],_=>rfl
 | _::_,0=>rfl
 | a::l,j+1=>by show f a::(l.map f).eraseIdx j=f a::(l.eraseIdx j).map f;rw[aes f l j]
theorem xB:∀ {zs:List Str} {its:List Value},Vals (zs.map V.str) its->∀ i (h:i<its.length),∃ z t,zs[i]? =some z/\its[i]=.str z t
 | [],_,r,i,h=>by cases r;simp at h
 | z::zs,_,.cons r t,i,h=>by
  obtain⟨tk,rfl⟩:=r;cases i with
  | zero=>exact⟨z,tk,rfl,rfl⟩
  | succ i=>exact xB t i (by simpa using h)
theorem aar:MtM X "list.remove" afr:=by
 intro pins s σ H x vs v us Q I rx rv h;obtain⟨l,zs,z,rfl,rfl,hH,hz,q⟩:=h;cases rx;obtain⟨u1,rfl,tk,rfl⟩:=vals1 rv;obtain⟨hzl,its,n,r,hl,e⟩:=I.alZ hH;rw[lm] at hl hzl;have hj:zs.idxOf z<zs.length:=List.idxOf_lt_length_of_mem hz;have at':=xB r
 let e':Value->Bool:=λ y=>match y with
  | .str a _=>a==z
  | _=>false
 have eqs:∀ y∈its.toArray,MeetsSeq.EqGives y (.str z tk) (e' y):=λ y hy=>by obtain⟨i,hi,ey⟩:=List.mem_iff_getElem.mp (show y∈its by simpa using hy);obtain⟨a,t,_,e2⟩:=at' i hi;rw[<- ey,e2];exact eqGives_str a z t tk
 refine call_meets F.slot_list_remove ⟨_,e,rfl⟩ F.entry_list_remove (F.args_list_remove_2 _ _) (MeetsSeq.list_remove l its.toArray n (.str z tk) e' eqs (zs.idxOf z) (by rw[List.size_toArray];omega) ?_ (λ m hm hmj=>?_) (by rw[List.size_toArray];omega)) ⟨e,?_⟩
 ·obtain⟨a,t,h1,h2⟩:=at' (zs.idxOf z) (by omega);have ha:a=z:=by rw[List.getElem?_eq_getElem hj] at h1;have:=List.getElem_idxOf hj;rw[this] at h1;exact(Option.some.inj h1).symm
  simp only[List.getElem_toArray,h2,e',ha];exact beq_self_eq_true z
 ·obtain⟨a,t,h1,h2⟩:=at' m (by simpa using hm);simp only[List.getElem_toArray,h2,e'];have hm':m<zs.length:=by omega
  rw[List.getElem?_eq_getElem hm'] at h1;have hne:zs[m]≠z:=λ ee=>by have h3:=List.not_of_lt_findIdx (p:=(· == z)) (xs:=zs) hmj;rw[ee] at h3;simp at h3
  have:a≠z:=by rw[<- Option.some.inj h1];exact hne
  simpa using this
 ·refine⟨.non,_,I.alO (its':=its.eraseIdx (zs.idxOf z)) (t':=s.toks) hH e ?_ ?_ ?_,rfl,q⟩
  ·show its.toArray.eraseIdxIfInBounds _=_;rw[List.eraseIdxIfInBounds_toArray]
  ·have r2:=r.eraseIdx (zs.idxOf z);rw[List.erase_eq_eraseIdx_of_idxOf (rfl:zs.idxOf z=zs.idxOf z)];rw[aes] at r2;exact r2
  ·rw[lm,List.length_erase_of_mem hz];omega
variable {o e:Expr}{td te:TD}{apos cpos:Pos}
def aaq(td te:TD)(τ:DS)(M:MH)(Q:QD):Prop:=td τ M λ w M1=>∃ a ws,w=.m a/\M1 a=some (.lst ws)/\te τ M1 λ y M2=>∃ (z:Str) (zs:List Str),y=.d (.str z)/\M2 a=some (.lst (cV zs))/\z∈zs/\Q (.d .none) (bC M2 a (.lst (cV (zs.erase z))))
theorem aby{H:Hp}:∀ {zs:List Str} {vs:List V},bu K H (cV zs) vs->vs=zs.map V.str
 | [],_,r=>by cases r;rfl
 | z::zs,_,.cons r t=>by simp only[aQ,aN] at r;rw[r,aby t];rfl
end
section
variable {X:Cx}{o i:Expr}{td ti:TD}{tpos pos:Pos}
def yC(t:List (Key×W))(k:Key):List (Key×W):=t.filter λ p=>decide (p.1≠k)
theorem aaf{R:W->V->Prop}(k:Key):∀ {t:List (Key×W)} {l:List (Key×V)},Paired (λ p q=>p.1=q.1/\R p.2 q.2) t l->Paired (λ p q=>p.1=q.1/\R p.2 q.2) (yC t k) (tG l k)
 | _,_,.nil=>.nil
 | _,_,.cons (a:=p) (b:=q) h t=>by
  have ih:=aaf k t;unfold yC tG at ih ⊢;rw[List.filter_cons,List.filter_cons,<- h.1]
  by_cases e:p.1≠k
  ·rw[if_pos (decide_eq_true e),if_pos (decide_eq_true e)];exact .cons h ih
  ·rw[if_neg (by simpa using e),if_neg (by simpa using e)];exact ih
def ah5(td ti:TD)(D:Ed)(τ:DS)(M:MH):Prop:=td τ M λ w M1=>ti τ M1 λ y M2=>∃ a kvs k,w=.m a/\M2 a=some (.dic kvs)/\y=kW k/\(lA kvs k).isSome=true/\D.nx τ (bC M2 a (.dic (yC kvs k)))
end
end D
namespace L2
section
variable {X:Cx}{CX:CXT}{k:Nat}{f C:Addr}{fd:FuncData}{ps:List Str}{sp:Sp}{E:XK}{pins:PN}{σ:St}{H:Hp}{s:Shared}{Q:VK}{us:List Value}{vs:List V}{dvs:List V}{ds:List Value}
theorem acB(F:bK X.prog X.w X.K X.mg X.base CX k f fd ps sp)(hr:eO k X.A)(hb:Binds X.K fd ps ds)(hd:Vals dvs ds)(I:Inv X pins σ H s)(r:Vals vs us)(h:sp (vs++dvs) H Q E)(hx:∀ e s',CX X.stack H s E e s'->X.xe e s') :
  wpAny (model X.prog X.w) X.A (call (.ref f) us) (EP X pins σ Q) X.xe s:=by
 have r2:Vals (vs++dvs) (us++ds):=r.append hd;have hl:(us++ds).length=ps.length:=by rw[<- r2.length];exact F.len _ _ _ _ h
 have b:=hb s us I.kIn hl;refine wpAny_call (codeAny_mono (F.run X.A X.stack s H ⟨us,[]⟩ (us++ds) (vs++dvs) Q E hr I.afU b r2 h) λ r s' hq=>?_);cases r with
 | error e=>exact hx e s' hq
 | ok fl=>cases fl<;>first | exact I.after hq | exact False.elim hq
end
end L2
namespace D
open L2 XO
def ak0(v:Value)(C:Addr):Bool:=match v with
 | .ref c=>decide (c=C)
 | _=>false
def mI(K:FG):List DictEntry->List (Str×Addr)->Bool
 | [],[]=>true
 | e::es,(k,d)::kvs=>qh e.key (.str k)&&ak0 e.val d&&mI K es kvs
 | _,_=>false
def ak6(K:FG)(a:Addr)(kvs:List (Str×Addr)):Bool:=match K.lookup a with
 | some o=>(match o.cls with
  | .type n=>decide (n = "dict")
  | _=>false)&&o.dict.isNone&&decide (o.slots.size=0)&&(match o.data with
  | .dict es _=>mI K es.toList kvs
  | _=>false)
 | none=>false
structure tD(w:World)(K:FG)(a:Addr)(kvs:List (Str×Addr)):Prop where
 is:ak6 K a kvs=true
 hs:hashesOf K a=some (kvs.map λ p=>PyData.keyHash w.params p.1)
 nd:(kvs.map (·.1)).Nodup
 ns:(a==sysModules)=false
theorem vv{P:Program}{w:World}{K:FG}:∀ {es:List DictEntry} {kvs:List (Str×Addr)},mI K es kvs=true->es.map (·.hash)=kvs.map (λ p=>PyData.keyHash w.params p.1) ->
  ∃ (L:List (Key×V)) (vs:List (Key×Value)),KV L vs/\Pairs (bt P w) es vs/\(∀ e∈es,∃ k,(bt P w).is k e.key=true/\e.hash=(bt P w).hash k)/\vs.map (·.1)=kvs.map (λ p=>(.inr p.1:Key))/\Paired (λ(p:Str×Addr) (q:Key×V)=>q.1=.inr p.1/\q.2=.ref p.2) kvs L
 | [],[],_,_=>⟨[],[],.nil,.nil,(λ e he=>by cases he),rfl,.nil⟩
 | e::es,(k,d)::kvs,h,hh=>by
  simp only[mI,ae00] at h;obtain⟨⟨h1,h2⟩,h3⟩:=h;rw[List.map_cons,List.map_cons] at hh;obtain⟨hh1,hh2⟩:=List.cons.inj hh;obtain⟨L,vs,i1,i2,i3,i4,i5⟩:=vv (P:=P) (w:=w) h3 hh2;obtain⟨r1,r2⟩:RelV (.ref d) e.val/\True:=by
   cases q:e.val with
   | ref c =>
    rw[q] at h2;have ec:c=d:=of_decide_eq_true h2;subst ec;exact⟨rfl,True.intro⟩
   | _=>rw[q] at h2;cases h2
  have hk:pT (.inr k) e.key=true:=by
   cases q:e.key with
   | str y t =>
    rw[q] at h1;have ey:y=k:=of_decide_eq_true h1;subst ey;show Value.isStrOf y (.str y t)=true;simp[Value.isStrOf]
   | _=>rw[q] at h1;cases h1
  refine⟨(.inr k,.ref d)::L,(.inr k,e.val)::vs,.cons ⟨rfl,r1⟩ i1,.cons hk rfl i2,λ e' he'=>?_,by rw[List.map_cons,i4];rfl,.cons ⟨rfl,rfl⟩ i5⟩;rcases List.mem_cons.mp he' with rfl | he'
  ·exact⟨.inr k,hk,hh1⟩
  ·exact i3 e' he'
 | [],_::_,h,_=>by cases h
 | _::_,[],h,_=>by cases h
section
variable {X:Cx}{pins:PN}{σ:St}{H:Hp}{s:Shared}{a:Addr}{kvs:List (Str×Addr)}
theorem tD.dd(D:tD X.w X.K a kvs)(I:Inv X pins σ H s):∃ (L:List (Key×V)) (vs:List (Key×Value)),KV L vs/\s.heap.DictOf (bt X.prog X.w) a vs/\Paired (λ(p:Str×Addr) (q:Key×V)=>q.1=.inr p.1/\q.2=.ref p.2) kvs L:=by
 have h:=D.is;have hs:=D.hs;unfold ak6 at h;unfold hashesOf at hs;cases e:X.K.lookup a with
 | none=>rw[e] at h;cases h
 | some o =>
  rw[e] at h hs;simp only[ae00] at h hs;obtain⟨⟨⟨h1,h2⟩,h3⟩,h4⟩:=h;have hc:o.cls=.type "dict":= by
   cases q:o.cls with
   | type n=>rw[q] at h1;rw[of_decide_eq_true h1]
   | _=>rw[q] at h1;cases h1
  have hd:o.dict=none:=by simpa using h2
  have hsl:o.slots = #[]:=Array.eq_empty_of_size_eq_zero (of_decide_eq_true h3);cases q:o.data with
  | dict es n =>
   rw[q] at h4 hs;obtain⟨L,vs,i1,i2,i3,i4,i5⟩:=vv (P:=X.prog) (w:=X.w) h4 (Option.some.inj hs);refine⟨L,vs,i1,⟨o,es,n,I.kIn a o e,⟨hc,hd,hsl⟩,q,λ e' he'=>i3 e' (by simpa using he'),i2,?_⟩,i5⟩;rw[i4,show(kvs.map λ p=>(.inr p.1:Key))=(kvs.map (·.1)).map Sum.inr from by simp];exact List.Pairwise.map Sum.inr (λ a b h z=>h (Sum.inr.inj z)) D.nd
  | _=>rw[q] at h4;cases h4
end
def uF(kvs:List (Str×Addr))(z:Str):Option Addr:=(kvs.find? λ p=>decide (p.1=z)).map (·.2)
theorem uy(z:Str):∀ {kvs:List (Str×Addr)} {L:List (Key×V)},Paired (λ(p:Str×Addr) (q:Key×V)=>q.1=.inr p.1/\q.2=.ref p.2) kvs L->OR (λ d v=>v=.ref d) (uF kvs z) (nO L (.inr z))
 | _,_,.nil=>True.intro
 | _,_,.cons (a:=p) (b:=q) (l₁:=t1) h t=>by
  obtain⟨h1,h2⟩:=h
  by_cases e:p.1=z
  ·rw[i8 (h1.trans (by rw[e])),show uF (p::t1) z=some p.2 by simp[uF,List.find?_cons,e]];exact h2
  ·rw[i7 (λ y=>e (Sum.inr.inj (h1.symm.trans y))),show uF (p::t1) z=uF t1 z by simp[uF,List.find?_cons,e]];exact uy z t
section
variable {X:Cx}{e:Expr}{a:Addr}{x:Str}{kvs:List (Str×Addr)}{pos p apos cpos:Pos}{ty:TE}{te:TD}
def alx(kvs:List (Str×Addr))(ty:TE):TE:=λ σ H Q=>ty σ H λ y H1=>∃ z d,y=.str z/\uF kvs z=some d/\Q (.ref d) H1
theorem af7(hg:Gl X x)(hm:X.mg x=some (.ref a))(kd:tD X.w X.K a kvs)(he:PE X e ty)(hs:ad4 e)(hd:ND x:=by decide):PE X (.Subscript (.Name x p) e pos) (alx kvs ty):=by intro pins s σ H Q I h;refine w9 PySem.F.slot_dict_getitem.lookup hs (thn (jw (v:=.ref a) hg hm rfl hd pins s σ H (λ v H'=>v=.ref a/\H'=H) I ⟨rfl,rfl⟩) λ u s1 hq109=>?_);obtain⟨x1,H1,I1,rx,ex,eH⟩:=hq109;subst ex eH;obtain rfl:u=Value.ref a:=rx;refine thn (he pins s1 σ H1 _ I1 h) λ iv s2 hq110=>?_;obtain⟨y,H2,I2,ry,z,d,ey,l,q2⟩:=hq110;subst ey;obtain⟨L,vs,rel,dd,pr⟩:=kd.dd I2;have lv:=uy z pr;rw[l] at lv;obtain⟨b,eb,rb⟩:=OR.some_of lv;obtain⟨w',hw,rw'⟩:=pA.some_of (v:=b) (o:=valueAt vs (.inr z)) (by rw[<- eb];exact rel.val (.inr z));exact⟨dd.typeIs,wpAny_getItem_of (nU (k:=.inr z) ry) dd.mapOf hw ⟨b,H2,I2.tok _,rw',by rw[rb];exact q2⟩⟩
def ajP(kvs:List (Str×Addr))(te:TD)(τ:DS)(M:MH)(Q:QD):Prop:=te τ M λ w M1=>∃ z d,w=.d (.str z)/\uF kvs z=some d/\Q (.m d) M1
end
section
variable {X:Cx}{pos p apos:Pos}{k:Nat}{f C:Addr}{fd:FuncData}{ps:List Str}{sp:SpX}{x m dz:Str}{e o:Expr}{es:List Expr}{t:TAd}{td:TD}{E:XE}
def xl(C:Addr)(m:Str)(sp:SpX)(dz:Str)(E:XE)(td:TD)(t:TAd)(τ:DS)(M:MH)(Q:QD):Prop:=td τ M λ w M1=>∃ a fs,w=.m a/\M1 a=some (.ins C fs)/\fs.lookup m=none/\t τ M1 λ ws M2=>sp (w::ws++[.d (.str dz)]) M2 Q λ a M'=>E a τ M'
theorem zE{pl:Sem Bool}(L:Lk X E)(he:PD X o td)(c:Cls X.K C)(hm:Meth X.K C m f)(F:bK X.prog X.w X.K X.mg X.base (CXE X.prog X.w) k f fd ps (eN X.K sp))(hr:eO k X.A)(hb:∃ tk,Binds X.K fd ps [.str dz tk])(ha:PAd X (e::es) t)
  (ht:eval (.Call (.Attribute o m apos) (e::es) [] pos) X.env=(do
   let ov <- eval o X.env
   standAt apos.atName
   let (f,first) <- holding [ov] (getMethod ov m pl)
   callWith pos f first (backTo pos (starEach (e::es) X.env)) (backToKw pos (keywordEach [] X.env))):=by rfl)
  (h1:eF e=false:=by rfl)(h2:(es.all λ e=>!eF e)=true:=by rfl):PD X (.Call (.Attribute o m apos) (e::es) [] pos) (xl C m sp dz E td t):=by
 intro pins s σ H Q I h;obtain⟨τ,M,Qd,A,h,k⟩:=h;refine W.methodCall_KW (pl:=pl) (thn (he pins s σ H (λ x H1=>∃ w M1,Kp H H1/\aQ X.K H1 w x/\cX X.K H1 M1/\∃ a fs,w=.m a/\M1 a=some (.ins C fs)/\fs.lookup m=none/\t τ M1 λ ws M2=>sp (w::ws++[.d (.str dz)]) M2 Qd λ a M'=>E a τ M') I ⟨τ,M,_,A,h,λ v H1 w M1 kp r m q=>⟨w,M1,kp,r,m,q⟩⟩)
  λ u s1 ⟨y,H1,I1,ry,w,M1,kp1,r1,m1,a,fs,ew,hma,hl,q1⟩=>?_) ht
 subst ew;obtain⟨dx,l,e1,pr⟩:=m1 _ _ hma;cases (show y=.ref a from r1);obtain rfl:u=Value.ref a:=ry;have g:=fg m pr;rw[hl] at g;refine gB I1 e1 c hm (OR.none_of g) ?_;refine W.callWith_K (first:=[.ref a]) (h₀:=X.base) I.ok.mod.kin hm.kp (thn (ha pos pins s1 σ H1 (λ vs H2=>∃ ws M2,Kp H1 H2/\bu X.K H2 ws vs/\cX X.K H2 M2/\sp (.m a::ws++[.d (.str dz)]) M2 Qd λ a M'=>E a τ M') I1 ⟨τ,M1,_,A.go kp1 m1,q1,λ vs H2 ws M2 kp r m q=>⟨ws,M2,kp,r,m,q⟩⟩)
  λ us s2 ⟨vs,H2,I2,r,ws,M2,kp2,rw,m2,q⟩=>⟨I2.kIn,?_⟩) (bV e es X.env h1) (cI pos X.env es h2)
 obtain⟨tk,hb⟩:=hb;exact acB (us:=.ref a::us) (vs:=.ref a::vs) (dvs:=[.str dz]) (ds:=[.str dz tk]) (E:=λ v _ H'=>∃ a M',v=.ref a/\Kp H2 H'/\cX X.K H' M'/\E a τ M') F hr hb (.cons ⟨tk,rfl⟩ .nil) I2 (.cons rfl r) ⟨.m a::ws++[.d (.str dz)],M2,Qd,_,bu.append (.cons rfl rw) (.cons (by simp[aQ,aN]) .nil),m2,q,kgo (kgo k kp1) kp2,λ a H' M' kp' m' e'=>⟨a,M',rfl,kp',m',e'⟩⟩ λ u s' hx=>rC L I2 ((A.go kp1 m1).go kp2 m2) (λ v H' z=>z) hx
def alI(X:Cx)(C:Addr)(sp:SpD):Prop:=∃ k fd ps,bK X.prog X.w X.K X.mg X.base CX0 k C fd ps (dH X.K sp)/\eO k X.A/\W.keepIn X.K (.ref C)=true/\L2.Binds X.K fd ps []
theorem ae9{y:Str}{sp:SpD}(hC:X.mg y=some (.ref C))(hm:X.mg y=some (.ref f))(F:bK X.prog X.w X.K X.mg X.base CX0 k f fd ps (dH X.K sp))(hr:eO k X.A)(hk:W.keepIn X.K (.ref f)=true)(hb:L2.Binds X.K fd ps []):alI X C sp:=by rw[hm] at hC;cases hC;exact⟨k,fd,ps,F,hr,hk,hb⟩
inductive o6(X:Cx):List (Addr×SpD)->Prop
 | nil:o6 X []
 | cons {C:Addr} {sp:SpD} {l:List (Addr×SpD)} (h:alI X C sp) (t:o6 X l):o6 X ((C,sp)::l)
theorem o6.of{l:List (Addr×SpD)}(h:o6 X l):∀ C sp,(C,sp)∈l->alI X C sp:=by
 induction h with
 | nil=>intro C sp z;cases z
 | cons h t ih =>
  intro C sp z;rcases List.mem_cons.mp z with z | z
  ·cases z;exact h
  ·exact ih C sp z
def aaN(l:List (Addr×SpD))(td:TD)(t:TAd)(τ:DS)(M:MH)(Q:QD):Prop:=td τ M λ w M1=>∃ C sp,w=.m C/\(C,sp)∈l/\t τ M1 λ ws M2=>sp ws M2 Q
end
structure MfK(K:FG)(C:Addr)(x qual:Str)(st:Stmt)(ps:List Str)(dz:Str)(f:Addr)(fd:FuncData):Prop where
 fn:Fun K x qual st f fd
 me:Meth K C x f
 bd:∃ tk,L2.Binds K fd ps [.str dz tk]
theorem agU{s:Shared}{K:FG}{x qual:Str}{body:List Stmt}{sc:Scope}{doc pm cdv ct:Value}{an:Option Addr}{KD:Addr}{a1 a2 a3:Arg}{kd:List (Option Expr)}{v:Value}{u1 u2:Value}
   (h12:(a2.arg==a1.arg)=false)(h13:(a3.arg==a1.arg)=false)(h23:(a3.arg==a2.arg)=false)
   (hK:K.In s.heap)(dk:W.nsIn K KD a3.arg=some (some v)) :
   BindsTo s (W.fnOf x qual ⟨[],[a1,a2],none,[a3],kd,none,[]⟩ body sc .none (.ref KD) doc pm an cdv ct) ⟨[u1,u2],[]⟩ [(a1.arg,u1),(a2.arg,u2),(a3.arg,v)]:=by
 intro M A E Q q;have e1:List.lookup a3.arg [(a1.arg,u1),(a2.arg,u2)]=none:=by simp[List.lookup,h13,h23]
 have e2:List.lookup a1.arg [(a1.arg,u1),(a2.arg,u2)]=some u1:=by simp[List.lookup]
 have e3:List.lookup a2.arg [(a1.arg,u1),(a2.arg,u2)]=some u2:=by simp[List.lookup,h12]
 unfold bindArgs;refine wb0 ?_;simp only[List.map_cons,List.map_nil,List.nil_append];rw[List.forIn_nil];refine wp0 ?_;refine wb0 ?_;refine wp0 ?_;simp only[List.zip_cons_cons,List.zip_nil_right,List.length_cons,List.length_nil,List.cons_append,List.nil_append];simp (config:={decide:=true}) only[Option.isNone,Bool.and_true,Bool.and_false,if_false,ite_false];have t1:(List.take (0+1+1-(List.drop ((((none:Option (Array Value)).getD #[]).toList.length)-(0+1+1)) ((none:Option (Array Value)).getD #[]).toList).length) [a1.arg,a2.arg])=[a1.arg,a2.arg]:=rfl;have t2:(List.drop (0+1+1-(List.drop ((((none:Option (Array Value)).getD #[]).toList.length)-(0+1+1)) ((none:Option (Array Value)).getD #[]).toList).length) [a1.arg,a2.arg])=[]:=rfl;rw[t1,t2]
 split
 ·rename_i h
  simp[List.filter,e2,e3] at h
 simp only[List.zip_nil_left,List.forIn_nil];refine wb0 (wp0 ?_);simp only[List.forIn_cons,List.forIn_nil,e1];refine wb0 ?_;refine wb0 ?_;refine wb0 ((W.looks_nsIn (M:=M) hK dk).at ?_);refine wp0 (wp0 ?_);show wpAny M A (pure (List.filterMap (λ n=>Option.map (λ x=>(n,x)) (List.lookup n [(a1.arg,u1),(a2.arg,u2),(a3.arg,v)])) [a1.arg,a2.arg,a3.arg])) Q E s;have ef:List.filterMap (λ n=>Option.map (λ x=>(n,x)) (List.lookup n [(a1.arg,u1),(a2.arg,u2),(a3.arg,v)])) [a1.arg,a2.arg,a3.arg]=[(a1.arg,u1),(a2.arg,u2),(a3.arg,v)]:=by simp[List.filterMap,List.lookup,h12,h13,h23]
 rw[ef];exact wp0 q
theorem ahV{K:FG}{C:Addr}{x qual dz:Str}{st:Stmt}{a1 a2 a3:Arg}{kd:List (Option Expr)}{f KD:Addr}{oc:Value}{od an:Option Addr}{osl:Array (Option Value)}{doc pm cdv ct:Value}{tk:Tok}(hp:bh st=⟨[],[a1,a2],none,[a3],kd,none,[]⟩)(h12:(a2.arg==a1.arg)=false)(h13:(a3.arg==a1.arg)=false)(h23:(a3.arg==a2.arg)=false)(a:W.findIn K (.ref C) x=some (some (.ref f)))(i:W.isFn K (.ref f)=true)
  (l:K.lookup f=some ⟨oc,od,.func (W.fnOf x qual (bh st) (aY st) (ak st) .none (.ref KD) doc pm an cdv ct),osl⟩)(c:W.codeIn K cdv qual=true)(k:W.keepIn K (.ref f)=true)(dk:W.nsIn K KD a3.arg=some (some (.str dz tk))) :
  MfK K C x qual st [a1.arg,a2.arg,a3.arg] dz f (W.fnOf x qual (bh st) (aY st) (ak st) .none (.ref KD) doc pm an cdv ct):=
 ⟨sR (st:=st) l c k,⟨a,i,k⟩,tk,λ s us hK hl=>by
  rw[hp];have hl':us.length=2:=by simpa using hl
  obtain⟨u1,u2,rfl⟩:∃ u1 u2,us=[u1,u2]:=by
   match us,hl' with
   | [u1,u2],_=>exact⟨u1,u2,rfl⟩
  exact agU h12 h13 h23 hK dk⟩
section
variable {X:Cx}{e o i:Expr}{a:Addr}{x m dz:Str}{kvs:List (Str×Addr)}{pos p apos cpos tpos:Pos}{te td ti:TD}{k:Nat}{f C:Addr}{fd:FuncData}{ps:List Str}{sp:SpX}{es:List Expr}{t:TAd}{E:XE}
theorem ado(hg:Gl X x)(hm:X.mg x=some (.ref a))(kd:tD X.w X.K a kvs)(he:Jd (PD X e te))(hs:ad4 e:=by exact λ _ _=>rfl)(hd:ND x:=by decide):Jd (PD X (.Subscript (.Name x p) e pos) (ajP kvs te)):=⟨have he:=he.h;
 ie (af7 hg hm kd he hs hd) λ σ H Q h=>by obtain⟨τ,M,Qd,A,h,k⟩:=h;refine⟨τ,M,_,A,h,λ y H1 w M1 kp r m1 hq111=>?_⟩;obtain⟨z,d,ew,l,q⟩:=hq111;subst ew;simp only[aQ,aN] at r;exact⟨z,d,r,l,k _ H1 (.m d) M1 kp rfl m1 q⟩⟩
theorem zf{l:List (Addr×SpD)}(hl:o6 X l)(hv:Jd (PD X (.Name x p) td))(ha:Jd (PAd X (e::es) t))(h1:eF e=false:=by rfl)(h2:(es.all λ e=>!eF e)=true:=by rfl):Jd (PD X (.Call (.Name x p) (e::es) [] pos) (aaN l td t)):=⟨have hv:=hv.h;have ha:=ha.h;by
 intro pins s σ H Q I h;obtain⟨τ,M,Qd,A,h,k⟩:=h;refine wpAny_Call_Name_kw (thn (hv pins s σ H (λ v H1=>∃ C sp M1,v=.ref C/\(C,sp)∈l/\Kp H H1/\cX X.K H1 M1/\t τ M1 λ ws M2=>sp ws M2 Qd) I ⟨τ,M,_,A,h,λ v H1 w M1 kp r m ⟨C,sp,ew,hm,q⟩=>by subst ew;exact⟨C,sp,M1,r,hm,kp,m,q⟩⟩) λ u s0 hq112=>?_);obtain⟨v,H0,I0,rv,C,sp,M0,ev,hm,kp0,m0,q0⟩:=hq112;subst ev;obtain rfl:u=Value.ref C:=rv;obtain⟨kk,fd,ps,F,hr,hk,hb⟩:=hl.of C sp hm;refine W.callWith_K (h₀:=X.base) I.ok.mod.kin hk (thn (ha pos pins s0 σ H0 (λ vs H1=>∃ ws M1,Kp H0 H1/\bu X.K H1 ws vs/\cX X.K H1 M1/\sp ws M1 Qd) I0 ⟨τ,M0,_,A.go kp0 m0,q0,λ vs H1 ws M1 kp r m q=>⟨ws,M1,kp,r,m,q⟩⟩) λ us s1 ⟨vs,H1,I1,r,ws,M1,kp,rw,m1,q⟩=>⟨I1.kIn,?_⟩) (bV e es X.env h1) (cI pos X.env es h2);exact xK (dvs:=[]) (ds:=[]) (E:=E0) F hr hb .nil aa6 I1 r ⟨ws,M1,Qd,by rw[List.append_nil];exact rw,m1,q,kgo (kgo k kp0) kp⟩⟩
theorem alC{pl:Sem Bool}(L:Lk X E)(he:Jd (PD X o td))(c:Cls X.K C)(hm:Meth X.K C m f)(F:bK X.prog X.w X.K X.mg X.base (CXE X.prog X.w) k f fd ps (eN X.K sp))(hr:eO k X.A)(hb:∃ tk,L2.Binds X.K fd ps [.str dz tk])(ha:Jd (PAd X (e::es) t))
  (ht:eval (.Call (.Attribute o m apos) (e::es) [] pos) X.env=(do
   let ov <- eval o X.env
   standAt apos.atName
   let (f,first) <- holding [ov] (getMethod ov m pl)
   callWith pos f first (backTo pos (starEach (e::es) X.env)) (backToKw pos (keywordEach [] X.env))):=by rfl)
  (h1:eF e=false:=by rfl)(h2:(es.all λ e=>!eF e)=true:=by rfl):Jd (PD X (.Call (.Attribute o m apos) (e::es) [] pos) (xl C m sp dz E td t)):=⟨D.zE (pl:=pl) L he.h c hm F hr hb ha.h ht h1 h2⟩
theorem y9(ho:Jd (PD X o td))(he:Jd (PD X e te))
  (hbase:attributeBase o "remove" X.env (eval o X.env)=eval o X.env:=by rfl)
  (hfew:((backTo cpos (starEach [e] X.env)).all (λ x=>!x.1)&&(backToKw cpos (keywordEach [] X.env)).all (λ x=>x.1.isSome)
   && decide (([e]:List Expr).length+([]:List Keyword).length+(if ([]:List Keyword).isEmpty then 0 else 1)<30))=true:=by rfl)
  (hline:(apos.endLine==cpos.line)=true:=by rfl)(hs:eF e=false:=by rfl):Jd (PD X (.Call (.Attribute o "remove" apos) [e] [] cpos) (aaq td te)):=⟨have ho:=ho.h;have he:=he.h;
 ie (ac9 PySem.F.plainAttrs_list PySem.F.slot_list_remove PySem.F.type_list_remove aar ho (pac he mN hs) hbase hfew hline (bV e [] X.env hs) rfl) λ σ H Q h=>by obtain⟨τ,M,Qd,A,h,k⟩:=h;refine⟨τ,M,_,A,h,λ x H1 w M1 kp1 r1 m1 hq107=>?_⟩;obtain⟨a,ws,ew,hm,q1⟩:=hq107;subst ew;obtain⟨vs,ea,ra⟩:=m1 _ _ hm;have r1':x=.ref a:=r1;subst r1';refine⟨.inl ⟨rfl,vs,.inl (.inl ea)⟩,τ,M1,aiE (λ y M2=>∃ (z:Str) (zs:List Str),y=.d (.str z)/\M2 a=some (.lst (cV zs))/\z∈zs/\Qd (.d .none) (bC M2 a (.lst (cV (zs.erase z))))),A.go kp1 m1,q1,λ ys H2 wys M2 kp2 r2 m2 q2=>?_⟩;obtain⟨y,ey,z,zs,ed,hm2,hz,q4⟩:=rP q2;subst ey ed;obtain⟨v,ev,rv⟩:=gb r2;subst ev;simp only[aQ,aN] at rv;subst rv;obtain⟨vs2,ea2,ra2⟩:=m2 _ _ hm2;have e2:=aby ra2;subst e2;have kp4:Kp H2 (upd H2 a (.lst ((zs.erase z).map V.str))):=Kp.set ea2 (λ _ z=>nomatch z) (λ _ _ z=>nomatch z);exact⟨a,zs,z,rfl,rfl,ea2,hz,k _ _ (.d .none) _ ((kp1.trans kp2).trans kp4) (by simp[aQ,aN]) (m2.put (mo:=.lst (cV (zs.erase z))) kp4 ⟨_,aA,abj _⟩) q4⟩⟩
theorem abG(ho:Jd (PD X o td))(hi:Jd (PD X i ti)):Jd (PSd X (.Delete [.Subscript o i tpos] pos) (ah5 td ti)):=⟨have ho:=ho.h;have hi:=hi.h;wB (agN ho hi) λ D σ H h=>by
 obtain⟨τ,M,Dd,A,h,k1,_⟩:=h;refine⟨τ,M,_,A,h,λ x H1 w M1 kp1 r1 m1 q1=>⟨τ,M1,_,A.go kp1 m1,q1,λ y H2 wy M2 kp2 r2 m2 hq108=>?_⟩⟩;obtain⟨a,kvs,key,ew,hm,ey,hs,q3⟩:=hq108;subst ew ey;obtain⟨l,e,pr⟩:=m2 _ _ hm;have kp4:Kp H2 (upd H2 a (.dK (tG l key))):=Kp.set e (λ _ z=>nomatch z) (λ _ _ z=>nomatch z);have hv:(nO l key).isSome=true:=by
  have g:=oQ key pr;cases q:lA kvs key with
  | none=>rw[q] at hs;cases hs
  | some w =>
   rw[q] at g;obtain⟨b,eb,_⟩:=OR.some_of g;rw[eb];rfl
 refine⟨a,l,key,r1,e,om r2,hv,k1 _ _ _ _ ((kp1.trans kp2).trans kp4) (A.go ((kp1.trans kp2).trans kp4) (m2.put (mo:=.dic (yC kvs key)) kp4 ⟨_,aA,?_⟩)) q3⟩;exact Paired.lV (aaf key pr) λ p q z=>⟨z.1,z.2.keep kp4⟩⟩
end
end D
namespace L2
section
variable {X:Cx}{CX:CXT}{k:Nat}{f C:Addr}{fd:FuncData}{ps:List Str}{sp:Sp}{E:XK}{pins:PN}{σ:St}{H:Hp}{s:Shared}{Q:VK}{us:List Value}{vs:List V}{v:V}{u:Value}{kn:Str}
theorem adD(F:bK X.prog X.w X.K X.mg X.base CX k f fd ps sp)(hr:eO k X.A)(hb:us.length+1=ps.length->BindsTo s fd ⟨us,[(kn,u)]⟩ (ps.zip (us++[u])))(I:Inv X pins σ H s)(r:Vals vs us)(rv:RelV v u)(h:sp (vs++[v]) H Q E)(hx:∀ e s',CX X.stack H s E e s'->X.xe e s') :
  wpAny (model X.prog X.w) X.A (call (.ref f) us [(kn,u)]) (EP X pins σ Q) X.xe s:=by
 have r2:Vals (vs++[v]) (us++[u]):=r.append (.cons rv .nil);have hl:(us++[u]).length=ps.length:=by rw[<- r2.length];exact F.len _ _ _ _ h
 refine wpAny_call (codeAny_mono (F.run X.A X.stack s H ⟨us,[(kn,u)]⟩ (us++[u]) (vs++[v]) Q E hr I.afU (hb (by simpa using hl)) r2 h) λ r s' hq=>?_);cases r with
 | error e=>exact hx e s' hq
 | ok fl=>cases fl<;>first | exact I.after hq | exact False.elim hq
end
end L2
namespace D
open L2 XO
theorem ad7{s:Shared}{x qual:Str}{body:List Stmt}{sc:Scope}{kV doc pm cdv ct:Value}{an:Option Addr}{a1 a2 a3:Arg}{kd:List (Option Expr)}{v:Value}{u1 u2:Value}
   (h12:(a2.arg==a1.arg)=false)(h13:(a3.arg==a1.arg)=false)(h23:(a3.arg==a2.arg)=false) :
   BindsTo s (W.fnOf x qual ⟨[],[a1,a2],none,[a3],kd,none,[]⟩ body sc .none kV doc pm an cdv ct) ⟨[u1,u2],[(a3.arg,v)]⟩ [(a1.arg,u1),(a2.arg,u2),(a3.arg,v)]:=by
 intro M A E Q q;have e1:List.lookup a3.arg [(a1.arg,u1),(a2.arg,u2)]=none:=by simp[List.lookup,h13,h23]
 have e0:List.lookup a3.arg [(a1.arg,u1),(a2.arg,u2),(a3.arg,v)]=some v:=by simp[List.lookup,h13,h23]
 have e2:List.lookup a1.arg [(a1.arg,u1),(a2.arg,u2),(a3.arg,v)]=some u1:=by simp[List.lookup]
 have e3:List.lookup a2.arg [(a1.arg,u1),(a2.arg,u2),(a3.arg,v)]=some u2:=by simp[List.lookup,h12]
 have c3:([a1.arg,a2.arg].contains a3.arg || [a3.arg].contains a3.arg)=true:=by simp
 unfold bindArgs;refine wb0 ?_;simp only[List.map_cons,List.map_nil,List.nil_append,List.zip_cons_cons,List.zip_nil_right];rw[List.forIn_cons];simp only[c3,e1,if_true,List.forIn_nil];refine wb0 ?_;simp (config:={decide:=true}) only[Option.isSome,if_false,ite_false];refine wp0 (wp0 ?_);refine wb0 ?_;refine wp0 ?_;simp only[List.zip_cons_cons,List.zip_nil_right,List.length_cons,List.length_nil,List.cons_append,List.nil_append];simp (config:={decide:=true}) only[Option.isNone,Bool.and_true,Bool.and_false,if_false,ite_false];have t1:(List.take (0+1+1-(List.drop ((((none:Option (Array Value)).getD #[]).toList.length)-(0+1+1)) ((none:Option (Array Value)).getD #[]).toList).length) [a1.arg,a2.arg])=[a1.arg,a2.arg]:=rfl;have t2:(List.drop (0+1+1-(List.drop ((((none:Option (Array Value)).getD #[]).toList.length)-(0+1+1)) ((none:Option (Array Value)).getD #[]).toList).length) [a1.arg,a2.arg])=[]:=rfl;rw[t1,t2]
 split
 ·rename_i h
  simp[List.filter,e2,e3] at h
 simp only[List.zip_nil_left,List.forIn_nil];refine wb0 (wp0 ?_);simp only[List.forIn_cons,List.forIn_nil,e0];rw[if_neg ft0];refine wb0 (wb0 (wp0 (wp0 ?_)));show wpAny M A (pure (List.filterMap (λ n=>Option.map (λ x=>(n,x)) (List.lookup n [(a1.arg,u1),(a2.arg,u2),(a3.arg,v)])) [a1.arg,a2.arg,a3.arg])) Q E s;have ef:List.filterMap (λ n=>Option.map (λ x=>(n,x)) (List.lookup n [(a1.arg,u1),(a2.arg,u2),(a3.arg,v)])) [a1.arg,a2.arg,a3.arg]=[(a1.arg,u1),(a2.arg,u2),(a3.arg,v)]:=by simp[List.filterMap,List.lookup,h12,h13,h23]
 rw[ef];exact wp0 q
def KB2(fd:FuncData)(ps:List Str)(kn:Str):Prop:=∀ (s:Shared) (us:List Value) (u:Value),us.length+1=ps.length->BindsTo s fd ⟨us,[(kn,u)]⟩ (ps.zip (us++[u]))
theorem aiN{x qual:Str}{st:Stmt}{a1 a2 a3:Arg}{kd:List (Option Expr)}{kV doc pm cdv ct:Value}{an:Option Addr}(hp:bh st=⟨[],[a1,a2],none,[a3],kd,none,[]⟩)(h12:(a2.arg==a1.arg)=false)(h13:(a3.arg==a1.arg)=false)(h23:(a3.arg==a2.arg)=false) :
  KB2 (W.fnOf x qual (bh st) (aY st) (ak st) .none kV doc pm an cdv ct) [a1.arg,a2.arg,a3.arg] a3.arg:=λ s us u hl=>by
 rw[hp];have hl':us.length=2:=by simpa using hl
 obtain⟨u1,u2,rfl⟩:∃ u1 u2,us=[u1,u2]:=by
  match us,hl' with
  | [u1,u2],_=>exact⟨u1,u2,rfl⟩
 exact ad7 h12 h13 h23
section
variable {X:Cx}{pos p apos kpos:Pos}{k:Nat}{f C:Addr}{fd:FuncData}{ps:List Str}{sp:SpX}{m kn:Str}{e o g:Expr}{es:List Expr}{t:TAd}{td tk:TD}{E:XE}
def wm(C:Addr)(m:Str)(sp:SpX)(E:XE)(td:TD)(t:TAd)(tk:TD)(τ:DS)(M:MH)(Q:QD):Prop:=td τ M λ w M1=>∃ a fs,w=.m a/\M1 a=some (.ins C fs)/\fs.lookup m=none/\t τ M1 λ ws M2=>tk τ M2 λ kv M3=>sp (w::ws++[kv]) M3 Q λ a M'=>E a τ M'
theorem zG{pl:Sem Bool}(L:Lk X E)(he:PD X o td)(c:Cls X.K C)(hm:Meth X.K C m f)(F:bK X.prog X.w X.K X.mg X.base (CXE X.prog X.w) k f fd ps (eN X.K sp))(hr:eO k X.A)(hb:KB2 fd ps kn)(ha:PAd X (e::es) t)(hk:PD X g tk)
  (ht:eval (.Call (.Attribute o m apos) (e::es) [⟨some kn,g,kpos⟩] pos) X.env=(do
   let ov <- eval o X.env
   standAt apos.atName
   let (f,first) <- holding [ov] (getMethod ov m pl)
   callWith pos f first (backTo pos (starEach (e::es) X.env)) (backToKw pos (keywordEach [⟨some kn,g,kpos⟩] X.env))):=by rfl)
  (h1:eF e=false:=by rfl)(h2:(es.all λ e=>!eF e)=true:=by rfl):PD X (.Call (.Attribute o m apos) (e::es) [⟨some kn,g,kpos⟩] pos) (wm C m sp E td t tk):=by
 intro pins s σ H Q I h;obtain⟨τ,M,Qd,A,h,k⟩:=h;refine W.methodCall_KW (pl:=pl) (thn (he pins s σ H (λ x H1=>∃ w M1,Kp H H1/\aQ X.K H1 w x/\cX X.K H1 M1/\∃ a fs,w=.m a/\M1 a=some (.ins C fs)/\fs.lookup m=none/\t τ M1 λ ws M2=>tk τ M2 λ kv M3=>sp (w::ws++[kv]) M3 Qd λ a M'=>E a τ M') I ⟨τ,M,_,A,h,λ v H1 w M1 kp r m q=>⟨w,M1,kp,r,m,q⟩⟩)
  λ u s1 ⟨y,H1,I1,ry,w,M1,kp1,r1,m1,a,fs,ew,hma,hl,q1⟩=>?_) ht
 subst ew;obtain⟨dx,l,e1,pr⟩:=m1 _ _ hma;cases (show y=.ref a from r1);obtain rfl:u=Value.ref a:=ry;have g1:=fg m pr;rw[hl] at g1;refine gB I1 e1 c hm (OR.none_of g1) ?_;refine W.callWith_KW (first:=[.ref a]) (h₀:=X.base) I.ok.mod.kin hm.kp rfl (thn (ha pos pins s1 σ H1 (λ vs H2=>∃ ws M2,Kp H1 H2/\bu X.K H2 ws vs/\cX X.K H2 M2/\tk τ M2 λ kv M3=>sp (.m a::ws++[kv]) M3 Qd λ a M'=>E a τ M') I1 ⟨τ,M1,_,A.go kp1 m1,q1,λ vs H2 ws M2 kp r m q=>⟨ws,M2,kp,r,m,q⟩⟩)
  λ us s2 ⟨vs,H2,I2,r,ws,M2,kp2,rw,m2,q⟩=>?_) (by rw[bV e es X.env h1];show((false || (backTo pos (starEach es X.env)).any (·.1)) || false)=false;rw[cI pos X.env es h2];rfl) (bV e es X.env h1)
 show wpAny _ _ (evalAll [(do let v <- eval g X.env;standAt pos;pure v)]) _ _ s2;refine wpAny_evalAll_cons (wb0 (thn (hk pins s2 σ H2 (λ v H3=>∃ kv M3,Kp H2 H3/\aQ X.K H3 kv v/\cX X.K H3 M3/\sp (.m a::ws++[kv]) M3 Qd λ a M'=>E a τ M') I2
  ⟨τ,M2,_,(A.go kp1 m1).go kp2 m2,q,λ v H3 kv M3 kp r m q=>⟨kv,M3,kp,r,m,q⟩⟩) λ u s3 ⟨v,H3,I3,r3,kv,M3,kp3,rw3,m3,q3⟩=>wb0 (wpAny_standAt (wp0 (wpAny_evalAll_nil ⟨I3.kIn,?_⟩)))))
 show wpAny _ _ (call (.ref f) (.ref a::us) [(kn,u)]) _ _ s3;exact adD (us:=.ref a::us) (vs:=.ref a::vs) (E:=λ v _ H'=>∃ a M',v=.ref a/\Kp H3 H'/\cX X.K H' M'/\E a τ M') F hr (hb s3 _ u) I3 (.cons rfl r) r3 ⟨.m a::ws++[kv],M3,Qd,_,bu.append (.cons rfl (rw.keep kp3)) (.cons rw3 .nil),m3,q3,kgo (kgo (kgo k kp1) kp2) kp3,λ a H' M' kp' m' e'=>⟨a,M',rfl,kp',m',e'⟩⟩ λ u s' hx=>rC L I3 (((A.go kp1 m1).go kp2 m2).go kp3 m3) (λ v H' z=>z) hx
end
structure MfL(K:FG)(C:Addr)(x qual:Str)(st:Stmt)(ps:List Str)(dz kn:Str)(f:Addr)(fd:FuncData):Prop extends MfK K C x qual st ps dz f fd where
 kb:KB2 fd ps kn
theorem ajv{K:FG}{C:Addr}{x qual dz:Str}{st:Stmt}{a1 a2 a3:Arg}{kd:List (Option Expr)}{f KD:Addr}{oc:Value}{od an:Option Addr}{osl:Array (Option Value)}{doc pm cdv ct:Value}{tk:Tok}(hp:bh st=⟨[],[a1,a2],none,[a3],kd,none,[]⟩)(h12:(a2.arg==a1.arg)=false)(h13:(a3.arg==a1.arg)=false)(h23:(a3.arg==a2.arg)=false)(a:W.findIn K (.ref C) x=some (some (.ref f)))(i:W.isFn K (.ref f)=true)
  (l:K.lookup f=some ⟨oc,od,.func (W.fnOf x qual (bh st) (aY st) (ak st) .none (.ref KD) doc pm an cdv ct),osl⟩)(c:W.codeIn K cdv qual=true)(k:W.keepIn K (.ref f)=true)(dk:W.nsIn K KD a3.arg=some (some (.str dz tk))) :
  MfL K C x qual st [a1.arg,a2.arg,a3.arg] dz a3.arg f (W.fnOf x qual (bh st) (aY st) (ak st) .none (.ref KD) doc pm an cdv ct):=
 ⟨ahV hp h12 h13 h23 a i l c k dk,aiN hp h12 h13 h23⟩
section
variable {X:Cx}{pos p apos kpos:Pos}{k:Nat}{f C:Addr}{fd:FuncData}{ps:List Str}{sp:SpX}{m kn:Str}{e o g:Expr}{es:List Expr}{t:TAd}{td tk:TD}{E:XE}
theorem akT{pl:Sem Bool}(L:Lk X E)(he:Jd (PD X o td))(c:Cls X.K C)(hm:Meth X.K C m f)(F:bK X.prog X.w X.K X.mg X.base (CXE X.prog X.w) k f fd ps (eN X.K sp))(hr:eO k X.A)(hb:KB2 fd ps kn)(ha:Jd (PAd X (e::es) t))(hk:Jd (PD X g tk))
  (ht:eval (.Call (.Attribute o m apos) (e::es) [⟨some kn,g,kpos⟩] pos) X.env=(do
   let ov <- eval o X.env
   standAt apos.atName
   let (f,first) <- holding [ov] (getMethod ov m pl)
   callWith pos f first (backTo pos (starEach (e::es) X.env)) (backToKw pos (keywordEach [⟨some kn,g,kpos⟩] X.env))):=by rfl)
  (h1:eF e=false:=by rfl)(h2:(es.all λ e=>!eF e)=true:=by rfl):Jd (PD X (.Call (.Attribute o m apos) (e::es) [⟨some kn,g,kpos⟩] pos) (wm C m sp E td t tk)):=⟨D.zG (pl:=pl) L he.h c hm F hr hb ha.h hk.h ht h1 h2⟩
end
open S
section
variable {X:Cx}{pins:PN}{σ:St}{H H':Hp}{s:Shared}{h':Heap}
theorem Inv.akg{t':Nat}(I:Inv X pins σ H s)(k:∀ b u,s.heap.get? b=some u->h'.get? b=some u)(hk:∀ b u,H b=some u->H' b=some u)(hn:∀ b u,s.heap.get? b=some u->H' b=H b)(new:∀ b u,H' b=some u->H b=none->cZ X.prog X.w H' h' b u):Inv X pins σ H' {s with heap:=h',toks:=t'}:=by
 refine I.un ⟨λ b ob e _ _ _=>k b ob e,λ b ob e _ _ _=>⟨ob.slots,k b ob e⟩,λ b ob e n _=>by rw[hn b ob e];exact n,λ b ob e _=>⟨ob,k b ob e⟩,λ b xs e=>hk _ _ e,λ b ob u e=>hk _ _ e,λ b ps e=>⟨#[],by rw[hk _ _ e];simp⟩⟩ λ b u e=>?_;cases q:H b with
 | none=>exact new b u e q
 | some u' =>
  have:=hk b u' q;rw[e] at this;cases this;exact(I.hok b u q).vB (λ c v _ q=>k c v q) (λ c q=>hk _ _ q) λ c xs q=>hk _ _ q
end
section
variable {X:Cx}{o:Expr}{to:TE}{apos cpos p pos:Pos}
def afH(to:TE):TE:=λ σ H Q=>to σ H λ x H1=>∃ a kvs,x=.ref a/\Rd H1 a (.dK kvs)/\∀ v,H1 v=none->Q (.ref v) (upd H1 v (.ext λ h=>h.IsItemsView v a))
theorem aaO(ho:PE X o to)(hbase:attributeBase o "items" X.env (eval o X.env)=eval o X.env:=by rfl)(hline:(apos.endLine==cpos.line)=true:=by rfl):PE X (.Call (.Attribute o "items" apos) [] [] cpos) (afH to):=by
 intro pins s σ H Q I h;refine wpAny_Call_method0_late hbase hline (thn (ho pins s σ H _ I h) λ v s1 hq113=>?_);obtain⟨x,H1,I1,r1,a,kvs,ex,hr,q⟩:=hq113;subst ex;cases r1;obtain⟨hsz,hsys,vs,rel,oo,es,ep,hd⟩:=hr.ok I1.hok;have dd:s1.heap.DictOf (bt X.prog X.w) a vs:=⟨oo,es,ep,hd⟩;have hnd:∀ b,Value.ref a=.ref b->∃ ob,s1.heap.get? b=some ob/\ob.dict=none:=λ b e=>by
  cases e;exact⟨oo,hd.1,hd.2.1.2.1⟩
 refine⟨"dict", "dict.items",PySem.F.plainAttrs_dict,PySem.F.slot_dict_items,PySem.F.type_dict_items,dd.typeIs,hnd,Calls.callWith_builtin rfl (PySem.evalArgs_none ?_)⟩;refine call_meetsIn PySem.F.slot_dict_items dd.typeIs PySem.F.entry_dict_items (PySem.F.args_dict_items_1 _) (meets_dict_items (bt X.prog X.w) a hsys) ⟨⟨vs,dd⟩,?_⟩;have hv:(s1.heap.push {cls:=.type "dict_items",data:=.fields #[.ref a]}).get? s1.heap.objs.size=some {cls:=.type "dict_items",data:=.fields #[.ref a]}:=Heap.get?_push_size _ rfl;refine⟨.ref _,_,I1.laid (a:=s1.heap.objs.size) (o:=.ext λ h=>h.IsItemsView s1.heap.objs.size a) (t':=s1.toks) (λ b ob e=>Heap.get?_push_of_some _ e) (lr0 _) ⟨⟨_,hv,rfl,rfl⟩,⟨_,hv⟩,λ h1 h2 ⟨ob,e1,e2⟩ k=>⟨ob,k ob e1,e2⟩⟩,rfl,q _ (I1.hok.fresh (lr0 _))⟩
theorem vS{prog:Program}{w:World}{A:Around}{E:VP}{s:Shared}{v:Value}{Q:Bool->Shared->Prop}(h:Q true s):wpAny (model prog w) A (eqBool v v) Q E s:=by
 unfold eqBool;refine wpAny_holding ?_;show wpAny _ _ (if (v==v)=true then _ else _) Q E s;rw[if_pos (by simp)];exact wb0 (wpAny_rule (wp0 h))
def ltZ(zs:List Str)(i j:Nat):Bool:=decide ((zs.getD i "").cps.toList<(zs.getD j "").cps.toList)
def ahu(zs:List Str):List Nat:=mU (ltZ zs) zs.length
theorem kl(zs:List Str):(ahu zs).Perm (List.range zs.length):=acP _ _
theorem al5{zs:List Str}{i:Nat}{z:Str}(h:zs[i]? =some z):zs.getD i "" = z:=by rw[List.getD_eq_getElem?_getD,h];rfl
theorem abK{h:Heap}:∀ {as:List Addr},(∀ a∈as,∃ z t x,h.get? a=some {cls:=.type "tuple",data:=.seq #[.str z t,x]})->∃ fs,W.KatTups h (as.map Value.ref) fs/\fs.length=as.length/\∀ v∈fs,∃ x k,v=Value.str x k
 | [],_=>⟨[],.nil,rfl,λ v hv=>nomatch hv⟩
 | a::as,hp=>by
  obtain⟨fs,h1,h2,h3⟩:=abK (as:=as) λ b hb=>hp b (by simp[hb]);obtain⟨z,t,x,e⟩:=hp a (by simp);refine⟨.str z t::fs,.cons e rfl rfl rfl h1,by simp[h2],λ v hv=>?_⟩;rcases List.mem_cons.mp hv with rfl | hv
  ·exact⟨z,t,rfl⟩
  ·exact h3 v hv
theorem aal{α β:Type}{F:α->β->Prop}:∀ {l:List α} {r:List β} {i:Nat} {x:α},Paired F l r->l[i]? =some x->∃ y,r[i]? =some y/\F x y
 | [],_,i,x,.nil,h=>by simp at h
 | a::l,b::r,0,x,.cons h1 h2,h=>by cases h;exact⟨b,rfl,h1⟩
 | a::l,b::r,i+1,x,.cons h1 h2,h=>aal (i:=i) h2 (by simpa using h)
def afy:List V->Hp->VK->Prop:=λ xs H2 Q=>∃ v a kvs,∃ zs:List Str,xs=[.ref v]/\H2 v=some (.ext λ h=>h.IsItemsView v a)/\Rd H2 a (.dK kvs)/\kvs.map (·.1)=zs.map Sum.inr/\zs.Nodup/\zs.length<64 /\
 ∀ (as:List Addr) (l:Addr) (H':Hp),as.length=kvs.length->(∀ (j:Nat) (b:Addr) (p:Key×V),as[j]? =some b->kvs[j]? =some p->H' b=some (.tup [kV p.1,p.2]))->H2 l=none->(∀ b u,H2 b=some u->H' b=some u)->H' l=some (.lst ((ahu zs).map λ i=>.ref (as.getD i 0)))->Q (.ref l) H'
theorem afX{P:Program}{w:World}{z:Str}{u:Value}(hk:(bt P w).is (.inr z) u=true):∃ t,u=.str z t:=by
 rw[yP] at hk;rcases cq hk with ⟨i,t,e,_⟩ | ⟨y,t,e,e'⟩
 ·cases e
 ·cases e;exact⟨t,e'⟩
theorem wb(hc:X.calm=true):fZ X (.builtin "sorted") afy:=by
 intro pins s2 σ H3 xs us Q I2 r h;obtain⟨v,a,kvs,zs,rfl,hv,hr,hk,nd,h64,q⟩:=h;obtain⟨u,rfl,rx⟩:=vals1 r;cases rx;refine Calls.call_function_entry kind_sorted plain_sorted entry_sorted (args_sorted1 _) ?_;obtain⟨hsz,hsys,vs',rel,oo,es,ep,hd⟩:=hr.ok I2.hok;obtain⟨hview,_⟩:=(show cZ X.prog X.w H3 s2.heap v (.ext λ h=>h.IsItemsView v a) from I2.hok v _ hv);have hkl:kvs.length=zs.length:=by simpa using congrArg List.length hk
 have hln:vs'.length=kvs.length:=(Paired.length rel).symm;have at1:∀ (h':Heap) (l:List Value),(h'.push (seqObj "list" l.toArray 0)).get? h'.objs.size=some (seqObj "list" l.toArray 0):=λ h' l=>Heap.get?_push_size _ rfl;unfold Builtin.«sorted»;refine wb0 (m:=checkCount "sorted" 1 1 _) (wp0 (wb0 (W.kdx_collect (A:=X.A.in1) (knd:=bt X.prog X.w) (r:=v) (d:=a) (kvs:=vs') (ep:=ep) (I2.ok.hd hc) hview ⟨oo,es,hd⟩ (by rw[sizeLine_eq];omega) λ h' tk as old hla hG=>?_)));have hrow:∀ (j:Nat) (z:Str),zs[j]? =some z->∃ b t x p,as[j]? =some b/\h'.get? b=some {cls:=.type "tuple",data:=.seq #[.str z t,x]}/\kvs[j]? =some (.inr z,p)/\RelV p x:=λ j z hz=>by
  have hj:=(List.getElem?_eq_some_iff.mp hz).1;have hb:as[j]? =some as[j]:=List.getElem?_eq_getElem (by omega);obtain⟨key,k,x,e1,e2,e3⟩:=hG.pairs j _ hb;have hp:kvs[j]? =some kvs[j]:=List.getElem?_eq_getElem (by omega);obtain⟨p',e4,e5⟩:=aal rel hp;rw[e1] at e4;cases e4;have e6:kvs[j].1=.inr z:=by have:=congrArg (·[j]?) hk;simp only[List.getElem?_map,hp,hz,Option.map_some] at this;exact Option.some.inj this
  rw[show k=.inr z from e5.1.symm.trans e6] at e2;obtain⟨t,rfl⟩:=afX e2;exact⟨as[j],t,x,kvs[j].2,hb,e3,by rw[hp,<- e6],e5.2⟩
 have hall:∀ b∈as,∃ z t x,h'.get? b=some {cls:=.type "tuple",data:=.seq #[.str z t,x]}:=λ b hb=>by obtain⟨j,hj⟩:=List.mem_iff_getElem?.mp hb;have hlt:=(List.getElem?_eq_some_iff.mp hj).1;obtain⟨b',t,x,p,e1,e2,_⟩:=hrow j _ (List.getElem?_eq_getElem (by omega:j<zs.length));rw[hj] at e1;cases e1;exact⟨_,t,x,e2⟩
 have lt':∀ b∈as,b<h'.objs.size:=λ b hb=>hG.there hb;have hvl:(as.map Value.ref).length=zs.length:=by rw[lm];omega
 refine wb0 (wpAny_newList ?_ (by rw[hvl,sizeLine_eq];omega));have mid:∀ b o,h'.get? b=some o->(dR (h'.push (seqObj "list" (as.map Value.ref).toArray 0)) h'.objs.size (as.map Value.ref)).get? b=some o:=λ b o e=>vQ (Heap.get?_push_of_some _ e) (Nat.ne_of_lt (Heap.lt_size e));refine wb0 (wpAny_holding (wpAny_call_entry slot_list_sort ⟨_,at1 h' (as.map Value.ref),rfl⟩ entry_list_sort (aa1 (κ:=tuples' true) (lt:=ltZ zs) (s:={s2 with heap:=h'.push (seqObj "list" (as.map Value.ref).toArray 0),toks:=tk}) (at1 h' (as.map Value.ref)) (by omega) (λ h2 Q' q'=>?_) (λ i j hi hj C c=>?_) ⟨_,rfl,wp0 ⟨_,rfl,?_⟩⟩) (args_list_sort _)))
 ·obtain⟨fs,t1,t2,t3⟩:=abK (h:=dR (h'.push (seqObj "list" (as.map Value.ref).toArray 0)) h'.objs.size (as.map Value.ref)) (as:=as) λ b hb=>by obtain⟨z,t,x,e⟩:=hall b hb;exact⟨z,t,x,mid _ _ e⟩
  rw[lm] at h2;exact W.kat_kind (s:={s2 with heap:=dR (h'.push (seqObj "list" (as.map Value.ref).toArray 0)) h'.objs.size (as.map Value.ref),toks:=tk}) (T:=.type "str") t1 (by omega) (λ v hv=>by obtain⟨x,k,rfl⟩:=t3 v hv;exact .now) rfl q'
 ·have gi:zs[i]? =some zs[i]:=List.getElem?_eq_getElem (by omega);have gj:zs[j]? =some zs[j]:=List.getElem?_eq_getElem (by omega);obtain⟨b1,t1,x1,p1,e1,f1,_⟩:=hrow i _ gi;obtain⟨b2,t2,x2,p2,e2,f2,_⟩:=hrow j _ gj;have v1:(as.map Value.ref).getD i Value.none=.ref b1:=by rw[List.getD_eq_getElem?_getD,List.getElem?_map,e1];rfl
  have v2:(as.map Value.ref).getD j Value.none=.ref b2:=by rw[List.getD_eq_getElem?_getD,List.getElem?_map,e2];rfl
  unfold W.kas_ask;rw[v1,v2];refine W.kat_lt (s:={s2 with heap:=dR (h'.push (seqObj "list" (as.map Value.ref).toArray 0)) h'.objs.size (as.map Value.ref),toks:=tk}) (mid _ _ f1) rfl (mid _ _ f2) rfl ?_;unfold ltZ at c;rw[al5 gi,al5 gj] at c;refine W.kat_cons (eqBool_str ?_)
  by_cases e:zs[i]=zs[j]
  ·have ij:i=j:=(List.getElem_inj nd).mp e;subst ij;rw[e1] at e2;cases e2;rw[f1] at f2;have ex:x1=x2:=by simp only[Option.some.injEq,Obj.mk.injEq,Data.seq.injEq,Array.mk.injEq,List.cons.injEq,and_true,true_and] at f2;exact f2.2
   subst ex;rw[show(zs[i]==zs[i])=true by simp];refine W.kat_yes (W.kat_cons (vS (W.kat_yes (W.kat_nil ?_))));rw[decide_eq_false (List.lt_irrefl _)] at c;exact c
  ·rw[show(zs[i]==zs[j])=false by simp[e]];refine W.kat_no ?_;exact oneLt_str c
 ·rw[hvl];obtain⟨n,e⟩:=sortedHeap_at (h:=h'.push (seqObj "list" (as.map Value.ref).toArray 0)) (vs:=as.map Value.ref) (out:=((mU (ltZ zs) zs.length).map λ i=>(as.map Value.ref).getD i Value.none).toArray) (at1 h' (as.map Value.ref));have nda:as.Nodup:=hG.rise.imp λ h e=>by subst e;exact absurd h (Nat.lt_irrefl _)
  have new:∀ b∈as,s2.heap.get? b=none:=λ b hb=>by
   cases q1:s2.heap.get? b with
   | none=>rfl
   | some ob=>exact absurd (Heap.lt_size q1) (Nat.not_lt.mpr (Nat.le_of_lt (hG.above b hb)))
  have hge:s2.heap.get? h'.objs.size=none:=by
   cases q1:s2.heap.get? h'.objs.size with
   | none=>rfl
   | some ob=>exact absurd (Heap.lt_size (old _ _ q1)) (Nat.lt_irrefl _)
  have keep':∀ b ob,h'.get? b=some ob->(sortedHeap (h'.push (seqObj "list" (as.map Value.ref).toArray 0)) h'.objs.size (as.map Value.ref) ((mU (ltZ zs) zs.length).map λ i=>(as.map Value.ref).getD i Value.none).toArray).get? b=some ob:=λ b ob eb=>by have l1:b<h'.objs.size:=Heap.lt_size eb;rw[sortedHeap_old (Nat.ne_of_lt l1) (by rw[size_push'];exact Nat.lt_succ_of_lt l1),Heap.get?_push_of_some _ eb]
  have hl3:=rY I2.hok hge;have lna:h'.objs.size ∉ as:=λ hb=>absurd (lt' _ hb) (Nat.lt_irrefl _);have ol:(ahu zs).length=zs.length:=by simpa using (kl zs).length_eq
  let H':Hp:=λ b=>if b=h'.objs.size then some (.lst ((ahu zs).map λ i=>.ref (as.getD i 0))) else if b∈as then (kvs[as.idxOf b]?).map λ p=>.tup [kV p.1,p.2] else H3 b
  have hH:∀ b u,H3 b=some u->H' b=some u:=λ b u eb=>by
   have n1:b≠h'.objs.size:=λ z=>by rw[z,hl3] at eb;cases eb
   have n2:b ∉ as:=λ hb=>by rw[rY I2.hok (new b hb)] at eb;cases eb
   show(if b=h'.objs.size then _ else if b∈as then _ else H3 b)=_;rw[if_neg n1,if_neg n2];exact eb
  have hT:∀ (j:Nat) (b:Addr) (p:Key×V),as[j]? =some b->kvs[j]? =some p->H' b=some (.tup [kV p.1,p.2]):=λ j b p hb hp=>by
   have hm:=List.mem_of_getElem? hb;obtain⟨hj,ej⟩:=List.getElem?_eq_some_iff.mp hb;have ix:as.idxOf b=j:=by rw[<- ej];exact nda.idxOf_getElem j hj
   show(if b=h'.objs.size then _ else if b∈as then _ else H3 b)=_;rw[if_neg (λ z:b=h'.objs.size=>lna (z ▸ hm)),if_pos hm,ix,hp];rfl
  refine⟨.ref _,H',Inv.akg (s:=s2) I2 (λ b u eb=>keep' b u (old b u eb)) hH (λ b u eb=>?_) (λ b u eb hb=>?_),rfl,q as _ H' (by omega) hT hl3 hH (if_pos rfl)⟩
  ·show(if b=h'.objs.size then _ else if b∈as then _ else H3 b)=_;rw[if_neg (λ z=>by rw[z,hge] at eb;cases eb),if_neg (λ hb=>by rw[new b hb] at eb;cases eb)]
  ·by_cases h1:b=h'.objs.size
   ·subst h1;rw[show H' h'.objs.size=some (.lst ((ahu zs).map λ i=>.ref (as.getD i 0))) from if_pos rfl] at eb;cases eb;refine⟨by rw[lm,ol];have:=s16;omega,_,n,?_,e⟩;have main:∀ is:List Nat,(∀ i∈is,i<zs.length)->Vals (is.map λ i=>V.ref (as.getD i 0)) (is.map λ i=>(as.map Value.ref).getD i Value.none):=by
     intro is
     induction is with
     | nil=>intro _;exact .nil
     | cons i is ih =>
      intro hi;refine .cons ?_ (ih λ j hj=>hi j (by simp[hj]));have h1:=hi i (by simp);have ea:as[i]? =some as[i]:=List.getElem?_eq_getElem (by omega);show(as.map Value.ref).getD i Value.none=Value.ref (as.getD i 0);rw[List.getD_eq_getElem?_getD,List.getD_eq_getElem?_getD,List.getElem?_map,ea];rfl
    exact main _ λ i hi=>by simpa using (kl zs).mem_iff.mp hi
   ·by_cases h2:b∈as
    ·obtain⟨j,hj⟩:=List.mem_iff_getElem?.mp h2;have hlt:=(List.getElem?_eq_some_iff.mp hj).1;obtain⟨b',t,x,p,e1,e2,e3,e4⟩:=hrow j _ (List.getElem?_eq_getElem (by omega:j<zs.length));rw[hj] at e1;cases e1;rw[hT j b _ hj e3] at eb;cases eb;exact⟨by have:=s16;show 2<=sizeLine;omega,[.str _ t,x],.cons ⟨t,rfl⟩ (.cons e4 .nil),_,keep' _ _ e2,rfl,rfl,_,rfl⟩
    ·have:H' b=H3 b:=by show(if b=h'.objs.size then _ else if b∈as then _ else H3 b)=_;rw[if_neg h1,if_neg h2]
     rw[this,hb] at eb;cases eb
end
section
variable {X:Cx}{o:Expr}{td:TD}{apos cpos p pos:Pos}
def oq(rows:List (Str×PyData)):List (Str×PyData):=(ahu (rows.map (·.1))).map λ i=>rows.getD i ("",.none)
theorem zw(rows:List (Str×PyData)):(oq rows).Perm rows:=by have h:=(kl (rows.map (·.1))).map λ i=>rows.getD i ("",.none);rw[lm,show(List.range rows.length).map (λ i=>rows.getD i ("",.none))=rows from List.ext_getElem (by simp) λ i h1 h2=>by simp[show i<rows.length by simpa using h1]] at h;exact h
abbrev itW(rows:List (Str×PyData)):List W:=rows.map λ p=>.d (.tuple [.str p.1,p.2])
abbrev qL(rows:List (Str×PyData)):List (Key×W):=rows.map λ p=>(.inr p.1,.d p.2)
def wj(td:TD)(τ:DS)(M:MH)(Q:QD):Prop:=td τ M λ w M1=>∃ a,∃ rows:List (Str×PyData),w=.m a/\M1 a=some (.dic (qL rows))/\(rows.map (·.1)).Nodup/\rows.length<64/\∀ l,M1 l=none->Q (.m l) (bC M1 l (.lst (itW (oq rows))))
theorem aci{K:FG}{H:Hp}:∀ {rows:List (Str×PyData)} {l:List (Key×V)},Paired (λ(p:Key×W) (q:Key×V)=>p.1=q.1/\aQ K H p.2 q.2) (qL rows) l->l.map (·.1)=(rows.map (·.1)).map Sum.inr/\∀ (j:Nat) (r:Str×PyData),rows[j]? =some r->∃ v,l[j]? =some (.inr r.1,v)/\aN K H r.2 v
 | [],l,pr=>by
  cases pr;exact⟨rfl,λ j r h=>by simp at h⟩
 | r0::rows,l,pr=>by
  match l,pr with
  | (k,v)::l,.cons h t =>
   obtain⟨h1,h2⟩:=aci t;have e:Sum.inr r0.1=k:=h.1;subst e;refine⟨by simp[h1],λ j r hr=>?_⟩;cases j with
   | zero=>cases hr;exact⟨v,rfl,h.2⟩
   | succ j=>exact h2 j r (by simpa using hr)
theorem pW(hc:X.calm=true)(hg:Gl X "sorted")(hm:X.mg "sorted" = none)(ho:Jd (PD X o td))(hbase:attributeBase o "items" X.env (eval o X.env)=eval o X.env:=by rfl)(hline:(apos.endLine==cpos.line)=true:=by rfl) :
  Jd (PD X (.Call (.Name "sorted" p) [.Call (.Attribute o "items" apos) [] [] cpos] [] pos) (wj td)):=⟨have ho:=ho.h;ie (rJ (wb hc) hg hm t9 (rF (aaO ho hbase hline) aav)) λ σ H Q hq114=>by
 obtain⟨τ,M,Qd,A,h,k⟩:=hq114;refine⟨τ,M,_,A,h,λ x H1 w M1 kp1 r1 m1 hq115=>?_⟩;obtain⟨a,rows,ew,hmm,nd,h64,q⟩:=hq115;subst ew;obtain⟨l,e,pr⟩:=m1 _ _ hmm;refine⟨a,l,r1,.inl e,λ v hv=>?_⟩;have na:a≠v:=λ z=>by rw[z,hv] at e;cases e
 obtain⟨hk,hp⟩:=aci pr;have kp2:Kp H1 (upd H1 v (.ext λ h=>h.IsItemsView v a)):=Kp.new hv;have m2:=m1.new (o:=.ext λ h=>h.IsItemsView v a) hv;refine⟨v,a,l,rows.map (·.1),rfl,aA,.inl (by rw[aB na];exact e),hk,nd,by simpa using h64,λ as c H' hl hT hc' hH hcl=>?_⟩;have kp3:Kp (upd H1 v (.ext λ h=>h.IsItemsView v a)) H':=⟨λ b xs e=>hH _ _ e,λ b o u e=>hH _ _ e⟩;have hlr:l.length=rows.length:=by simpa using congrArg List.length hk
 refine kgo k kp1 _ _ (.m c) _ (kp2.trans kp3) rfl (λ b mo qb=>?_) (q c (m2.free hc'))
 by_cases eb:b=c
 ·subst eb;rw[ao] at qb;cases qb;refine⟨_,hcl,?_⟩;have main:∀ is:List Nat,(∀ i∈is,i<rows.length)->bu X.K H' (itW (is.map λ i=>rows.getD i ("",.none))) (is.map λ i=>V.ref (as.getD i 0)):=by
   intro is
   induction is with
   | nil=>intro _;exact .nil
   | cons i is ih =>
    intro hi;refine .cons ?_ (ih λ j hj=>hi j (by simp[hj]));have h1:=hi i (by simp);have hr:rows[i]? =some rows[i]:=List.getElem?_eq_getElem h1;obtain⟨v',e1,e2⟩:=hp i _ hr;have ha:as[i]? =some as[i]:=List.getElem?_eq_getElem (by omega);have g1:rows.getD i ("",.none)=rows[i]:=by rw[List.getD_eq_getElem?_getD,hr];rfl
    have g2:as.getD i 0=as[i]:=by rw[List.getD_eq_getElem?_getD,ha];rfl
    show aN X.K H' (.tuple [.str (rows.getD i ("",.none)).1,(rows.getD i ("",.none)).2]) (.ref (as.getD i 0));rw[g1,g2];simp only[aN];refine⟨as[i],[.str rows[i].1,v'],rfl,.inl (.inl (hT i _ _ ha e1)),?_⟩;simp only[bJ];exact⟨.str rows[i].1,[v'],rfl,by simp only[aN],v',[],rfl,(e2.keep kp2).keep kp3,rfl⟩
  exact main _ λ i hi=>by simpa using (kl (rows.map (·.1))).mem_iff.mp hi
 ·rw[ar eb] at qb;exact(m2 b mo qb).keep kp3 λ u z=>hH _ _ z⟩
end
def oI(t:XE->TSd)(E:XE)(D:Ed)(τ:DS)(M:MH):Prop:=∃ a ws,M a=some (.lst ws)/\t (λ x τ' M'=>M' a=some (.flst ws)/\E x τ' (bC M' a (.lst ws)))
 {nx:=λ τ' M'=>M' a=some (.flst ws)/\D.nx τ' (bC M' a (.lst ws)),rt:=λ w M'=>M' a=some (.flst ws)/\D.rt w (bC M' a (.lst ws)),
  bk:=λ τ' M'=>M' a=some (.flst ws)/\D.bk τ' (bC M' a (.lst ws)),ct:=λ τ' M'=>M' a=some (.flst ws)/\D.ct τ' (bC M' a (.lst ws))} τ (bC M a (.flst ws))
theorem ur{X:Cx}{E:XE}{st:Stmt}{t:XE->TSd}(L:Lk X E)(h:∀ E',Lk X E'->PSd X st (t E')):PSd X st (oI t E):=by
 intro pins s σ H D I ⟨τ,M,Dd,A,⟨a,ws,hm,q⟩,k1,k2,k3,k4⟩;obtain⟨l,e,pr⟩:=A.mem _ _ hm;obtain⟨b1,b2,b3⟩:=sy I e;have L':Lk X (λ x τ' M'=>M' a=some (.flst ws)/\E x τ' (bC M' a (.lst ws))):=λ pins' σ' H' s' x τ' M' I' air A' hq116=>by obtain⟨h1,h2⟩:=hq116;obtain⟨o',l',e',_⟩:=A'.mem _ _ h1;have I2:Inv X pins' σ' (upd H' a (.lst l')) s':=Inv.swap I' e' (λ _ z=>nomatch z) (λ _ z=>nomatch z) b1 b2 b3 ((I'.hok a _ e').2.2.aj4 (show Fz (.lst l') from trivial));obtain⟨C,dct,vs,cc,g1,g2⟩:=air;exact L pins' σ' _ s' x τ' _ I2 ⟨C,dct,vs,cc,by rw[aB (λ z=>by rw[z,e'] at g1;cases g1)];exact g1,g2⟩ (Abs.cM e' A' h1) h2
 exact(vN (h _ L')) pins s σ H D I ⟨τ,M,Dd,A,⟨a,ws,hm,q⟩,k1,k2,k3,k4⟩
theorem sX{X:Cx}{E:XE}{st:Stmt}{t:XE->TSd}(L:Lk X E)(h:∀ E',Lk X E'->Jd (PSd X st (t E'))):Jd (PSd X st (oI t E)):=⟨D.ur L λ E' l=>(h E' l).h⟩
end D
namespace L2
theorem eO.m{j k:Nat}{A:PySem.Around}(r:eO k A)(h:j<=k:=by decide):eO j A:=r.mono h
end L2
namespace D
open L2
abbrev PXi(K:FG)(C:Addr)(x:Str)(st:Stmt):Prop:=∃ (f:Addr) (oc kV dc pm cd ct:Value) (od an:Option Addr) (sl:Array (Option Value)),W.findIn K (.ref C) "__init__" = some (some (.ref f))/\W.typeIn K (.ref f)=some (.type "function")/\K.lookup f=some ⟨oc,od,.func (W.fnOf "__init__" x (bh st) (aY st) (ak st) .none kV dc pm an cd ct),sl⟩/\W.codeIn K cd x=true/\W.keepIn K (.ref f)=true/\XO.xmk K C=true/\W.typeIn K (.ref C)=some (.type "type")/\W.keepIn K (.ref C)=true
theorem aiq{K:FG}{C:Addr}{x:Str}{st:Stmt}{f:Addr}{oc kV dc pm cd ct:Value}{od an:Option Addr}{sl:Array (Option Value)}(a:W.findIn K (.ref C) "__init__" = some (some (.ref f)))(i:W.typeIn K (.ref f)=some (.type "function"))(l:K.lookup f=some ⟨oc,od,.func (W.fnOf "__init__" x (bh st) (aY st) (ak st) .none kV dc pm an cd ct),sl⟩)(c:W.codeIn K cd x=true)(k:W.keepIn K (.ref f)=true)(m:XO.xmk K C=true)(t:W.typeIn K (.ref C)=some (.type "type"))(n:W.keepIn K (.ref C)=true):PXi K C x st:=⟨_,_,_,_,_,_,_,_,_,_,a,i,l,c,k,m,t,n⟩
theorem PXi.xi{K:FG}{C:Addr}{x:Str}{st:Stmt}{ps:List Str}(p:PXi K C x st)(e:XO.XC K C)
  (b:∀ (kV doc pm:Value) (an:Option Addr) (cdv ct:Value) (us:List Value),us.length=ps.length->bindArgs (W.fnOf "__init__" x (bh st) (aY st) (ak st) .none kV doc pm an cdv ct) ⟨us,[]⟩=pure (ps.zip us)):∃ f fd,Xi K C x st ps f fd:=
 let ⟨f,_,_,_,_,_,_,_,_,_,a,i,l,c,k,m,t,n⟩:=p; ⟨f,_,alq e a i l c k m t n b⟩
abbrev PXc(K:FG)(C:Addr):Prop:=XO.afA K C=true/\W.findIn K (.ref C) "__setattr__" = some (some (.builtin "object.__setattr__"))/\W.findIn K (.ref C) "__getattribute__" = some (some (.builtin "BaseException.__getattribute__"))/\W.findIn K (.ref C) "__getattr__" = some none/\W.findIn K (.ref C) "__class__" = some (some (.builtin "object.__class__"))
theorem PXc.xc{K:FG}{C:Addr}(p:PXc K C)(g1:W.specialIn K (.builtin "object.__class__") "__get__" = some (some (.builtin "getset_descriptor.__get__")))(g2:W.takesIn K (.builtin "object.__class__")=some true):XO.XC K C:=⟨p.1,p.2.1,p.2.2.1,p.2.2.2.1,p.2.2.2.2,g1,g2⟩
abbrev EdQ(Q:QD):Ed:={nx:=λ _ M'=>Q (.d .none) M',rt:=Q}
abbrev Ln(sp:SpD)(n:Nat):Prop:=∀ ws M Q,sp ws M Q->ws.length=n
abbrev LnX(sp:SpX)(n:Nat):Prop:=∀ ws M Q E,sp ws M Q E->ws.length=n
abbrev Rd(sp:SpD)(t:TSd)(N:List Str):Prop:=∀ ws M Q,sp ws M Q->t (EdQ Q) (gA N ws) M
abbrev RdX(sp:SpX)(t:XE->TSd)(N:List Str):Prop:=∀ ws M Q E,sp ws M Q E->t (λ a _ M=>E a M) (EdQ Q) (gA N ws) M
abbrev dS(z:Str):TD:=dC (.d (.str z))
abbrev dI(n:Int):TD:=dC (.d (.int n))
end D
namespace K26
open L2 D Rc Stc
abbrev nY:Addr:=41
abbrev ko:Addr:=54
abbrev eQ:Addr:=62
abbrev cf:Addr:=93
abbrev bZ:Addr:=106
abbrev bX:Addr:=118
abbrev cJ:Addr:=137
abbrev aw:Addr:=156
abbrev aO:Addr:=175
abbrev bw:Addr:=194
abbrev aD:Addr:=213
abbrev vc:Addr:=216
abbrev kA:Addr:=217
abbrev ou:Addr:=227
abbrev dG:Addr:=252
abbrev eK:Addr:=259
abbrev sA:Addr:=266
abbrev pq:Addr:=273
abbrev acu:Addr:=280
abbrev wu:Addr:=287
abbrev oH:Addr:=294
abbrev ph:Addr:=301
abbrev fb:Addr:=306
abbrev kH:Addr:=307
abbrev aq:Addr:=447
def kN:List (Str×PyData):=[("share",.tuple [.int (1),.int (9)]),("copies",.tuple [.int (0),.int (6)]),("keep",.tuple [.int (0),.int (5)]),("start",.tuple [.int (0),.int (2)]),("hands",.tuple [.int (1),.int (3)]),("place",.tuple [.int (0),.int (7)]),("asks",.tuple [.int (1),.int (20)])]
def jR:List (Str×PyData):=[("group",.int (4)),("wish",.int (8)),("store",.int (4)),("door",.int (6)),("rule",.int (4))]
def j8:List (Str×PyData):=[("copies",.tuple [.str "wish",.int (1)]),("edition",.tuple [.str "wish",.int (1)]),("back",.tuple [.str "wish",.int (1)]),("rank",.tuple [.str "wish",.int (1)]),("store",.tuple [.str "wish",.int (2)]),("door",.tuple [.str "wish",.int (2)]),("rule",.tuple [.str "door",.int (2)]),("empty",.tuple [.str "machine",.int (1)]),("fill",.tuple [.str "machine",.int (1)])]
def m7:List (Str×PyData):=[("group",.tuple [.str "word",.str "share"]),("wish",.tuple [.str "word",.str "word",.str "copies",.str "keep",.str "start",.str "hands"]),("copies",.tuple [.str "word",.str "copies",.str "keep"]),("edition",.tuple [.str "word",.str "start",.str "hands"]),("back",.tuple [.str "word"]),("rank",.tuple [.str "word",.str "place"]),("store",.tuple [.str "word",.str "word"]),("door",.tuple [.str "word",.str "word"]),("rule",.tuple [.str "word",.str "word",.str "asks",.str "copies",.str "keep"]),("empty",.tuple [.str "word"]),("fill",.tuple [.str "word"]),("end",.tuple [.str "sort",.str "word"])]
def oK:List (Str×PyData):=[("wish",.tuple [.str "store",.str "door"]),("store",.tuple []),("door",.tuple [.str "rule"]),("rule",.tuple [])]
def ki:List (Str×Addr):=[("group",dG),("wish",eK),("copies",sA),("edition",pq),("back",acu),("rank",wu),("store",dG),("door",dG),("rule",dG),("empty",oH),("fill",ph),("end",fb)]
abbrev lD:List Str:=["_law_bag_here", "_law_names_here", "_law_at"]
def lM(aR:SpD):TSd:=
  bA (dU (jF (ah (dS "m") (ah (dS "n") (ah (dS "a") (ah (dS "mm") (ah (dS "zeta") (ah (dS "wish") (ah (dS "b") (ah (dS "qrstuvwx") aI))))))))) (gN 1)) <|
  bA (dU (bH aR (ah (aj 0) (ah (dI 8) aI))) (gN 2)) <|
  cF (dSl (yJ (dSl (aj 1) (iO (aj 2)) dJ) (dSl (aj 1) dJ (iO (aj 2)))) dJ (iO (dOp ip (dI 1) (bH aR (ah (aj 0) (ah (dI 8) aI))))))
abbrev pQ:List Str:=["self", "at"]
abbrev tw:List Str:=["thing"]
def uV:TSd:=
  bA (dIf (dOr (wg (aJ (dCB lS (ah (aj 0) (ah (dC (.t "str")) aI))))) (wg (aJ (lT aeK aeK (dI 1) (dCB jC (ah (aj 0) aI)) (dI 8)))))
   (cF (dC (.d (.bool false))))
   bx) <|
  cF (dCB adh (ah (dLC (eG (aj 0)) (gN 0) adb (lT aeK aeK (dS "a") (aj 0) (dS "z")) 1 []) aI))
abbrev jk:List Str:=["names", "at", "name"]
def jd(Ex:XE)(bD:SpD):TSd:=
  bA (dIf (dOr (wg (aJ (dCB lS (ah (aj 0) (ah (dC (.t "list")) aI))))) (wg (aj3 (aj 0))))
   (iE cJ ["at"] Ex (ah (dI 0) aI))
   bx) <|
  ag3 (ajx (ah (aj 0) aI)) (gT 2 (de (gN 1) (de (gN 2) pR)))
   (dIf (dOr (aJ (dOp ahF (aj 1) (dI 8))) (dOr (wg (aJ (bH bD (ah (aj 2) aI)))) (aJ (dOp (ab8 false) (aj 2) (dSl (aj 0) dJ (iO (aj 1)))))))
    (iE cJ ["at"] Ex (ah (aj 1) aI))
    bx)
abbrev ni:List Str:=["self", "machines"]
def oV(Ex:XE)(bQ:SpX):TSd:=
  bA (eL (aem bQ Ex (ah (aj 1) aI))) <|
  bA (gy aq (aj 0) (gX (dCB dA (ah (aj 1) aI))) "machine_names") <|
  bA (gy aq (aj 0) (fX aI) "emptied_names") <|
  bA (gy aq (aj 0) (fX aI) "ranked") <|
  bA (gy aq (aj 0) rh "wished") <|
  bA (gy aq (aj 0) (fX aI) "ended") <|
  bA (gy aq (aj 0) (lC [(dS "group",fX aI),(dS "store",fX aI),(dS "door",fX aI),(dS "rule",fX aI)]) "told_rows") <|
  gy aq (aj 0) (fX aI) "done"
abbrev aco:List Str:=["_law_machines_here", "_law_found"]
def aa7:TSd:=
  bA (dU (lC [(dS "machine",gX (dCB dA (ah (aj 0) aI))),(dS "emptied",jF aI),(dS "ranked",jF aI),(dS "data",rh),(dS "past",fX aI),(dS "log",fX aI)]) (gN 1)) <|
  bA (eL (zh (aj 1) (vX [(dS "group",jF aI),(dS "store",jF aI),(dS "door",jF aI),(dS "rule",jF aI)]))) <|
  cF (aj 1)
abbrev sV:List Str:=["_law_m", "_law_sort"]
def uD:TSd:=
  bA (dIf (aJ (dOp bU (aj 1) (dS "wish")))
   (cF (bf (aj 0) (dS "ranked")))
   bx) <|
  bA (dIf (aJ (dOp bU (aj 1) (dS "machine")))
   (cF (bf (aj 0) (dS "machine")))
   bx) <|
  cF (dLC (eG (bf (aj 0) (aj 1))) (gN 0) adb (dOp bL (aj 0) (dI 0)) 1 [])
abbrev xQ:List Str:=["_law_bag_here", "_law_m", "_law_sort", "_law_some"]
def yz(bp:SpD)(aR:SpD):TSd:=
  bA (dU (bH bp (ah (aj 1) (ah (aj 2) aI))) (gN 3)) <|
  bA (dIf (vC (aJ (dOp jA (aj 3) (jF aI))) (aJ (dOp ahD (bH aR (ah (aj 0) (ah (dI 5) aI))) (dI 0))))
   (cF (dOp bL (aj 3) (bH aR (ah (aj 0) (ah (dCB jC (ah (aj 3) aI)) aI)))))
   bx) <|
  cF (dOp bL (dS "abcdef") (bH aR (ah (aj 0) (ah (dI 6) aI))))
abbrev xJ:List Str:=["_law_bag_here", "_law_m", "_law_way", "_law_sort", "_law_name_here"]
def yb(aR:SpD)(dr:SpD):TSd:=
  bA (dU (bH aR (ah (aj 0) (ah (dI 9) aI))) (gN 2)) <|
  bA (dIf (aJ (dOp akX (aj 2) (dI 4)))
   (bA (dU (dOp bL (jF (ah (dS "wish") (ah (dS "store") (ah (dS "door") (ah (dS "rule") aI))))) (aj 2)) (gN 3)) <|
   cF (eo (ah (dS "end") (ah (aj 3) (ah (bH dr (ah (aj 0) (ah (aj 1) (ah (aj 3) aI)))) aI)))))
   bx) <|
  bA (dU (dOp bL (dS "abcdef") (bH aR (ah (aj 0) (ah (dI 6) aI)))) (gN 4)) <|
  bA (dIf (aJ (dOp bU (aj 2) (dI 4)))
   (cF (eo (ah (dS "wish") (ah (aj 4) (ah (dOp bL (jF (ah (dS "front") (ah (dS "side") aI))) (bH aR (ah (aj 0) (ah (dI 2) aI)))) (ah (dI 2) (ah (dI 1) (ah (dI 0) (ah (dI 1) aI)))))))))
   bx) <|
  bA (dIf (aJ (dOp bU (aj 2) (dI 5)))
   (cF (eo (ah (dS "store") (ah (aj 4) (ah (bH dr (ah (aj 0) (ah (aj 1) (ah (dS "wish") aI)))) aI)))))
   bx) <|
  bA (dIf (aJ (dOp bU (aj 2) (dI 6)))
   (cF (eo (ah (dS "rule") (ah (aj 4) (ah (bH dr (ah (aj 0) (ah (aj 1) (ah (dS "door") aI)))) (ah (dOp ip (dI 1) (bH aR (ah (aj 0) (ah (dI 9) aI)))) (ah (dI 2) (ah (dI 1) aI))))))))
   bx) <|
  cF (eo (ah (dS "door") (ah (aj 4) (ah (bH dr (ah (aj 0) (ah (aj 1) (ah (dS "wish") aI)))) aI))))
abbrev vk:List Str:=["_law_m", "_law_thing", "_law_asked_here", "_law_sort", "_law_at"]
def vb(bp:SpD):TSd:=
  bA (dU (lC [(dS "store",eo (ah (dS "wish") (ah (dI 2) aI))),(dS "door",eo (ah (dS "wish") (ah (dI 2) aI))),(dS "rule",eo (ah (dS "door") (ah (dI 2) aI))),(dS "empty",eo (ah (dS "machine") (ah (dI 1) aI)))]) (gN 2)) <|
  bA (eL (zh (aj 2) (vX [(dS "fill",eo (ah (dS "machine") (ah (dI 1) aI))),(dS "copies",eo (ah (dS "wish") (ah (dI 1) aI))),(dS "edition",eo (ah (dS "wish") (ah (dI 1) aI)))]))) <|
  bA (eL (zh (aj 2) (vX [(dS "back",eo (ah (dS "wish") (ah (dI 1) aI))),(dS "rank",eo (ah (dS "wish") (ah (dI 1) aI)))]))) <|
  bA (dIf (aJ (dOp bU (dOp bL (aj 1) (dI 0)) (dS "end")))
   (aka 3 4 (ah (dOp bL (aj 1) (dI 1)) (ah (dI 2) aI)))
   (dIf (aJ (ajM (dOp bL (aj 1) (dI 0)) (aj 2)))
    (dU (bf (aj 2) (dOp bL (aj 1) (dI 0))) (gT 2 (de (gN 3) (de (gN 4) pR))))
    (cF (dC (.d .none))))) <|
  bA (dIf (aJ (dOp (mj false) (dOp bL (aj 1) (aj 4)) (bH bp (ah (aj 0) (ah (aj 3) aI)))))
   (cF (dC (.d .none)))
   bx) <|
  cF (dOp bL (aj 1) (aj 4))
abbrev vw:List Str:=["_law_m", "_law_sort", "_law_name_here"]
def uQ:TSd:=
  bA (dIf (aJ (dOp bU (aj 1) (dS "wish")))
   (cF (dLC (eG (yJ (bf (aj 0) (dS "store")) (bf (aj 0) (dS "door")))) (gN 0) (aJ (dOp bU (dOp bL (aj 0) (dI 1)) (aj 1))) (dOp bL (aj 0) (dI 0)) 1 [2]))
   bx) <|
  bA (dIf (aJ (dOp bU (aj 1) (dS "door")))
   (cF (dLC (eG (bf (aj 0) (dS "rule"))) (gN 0) (aJ (dOp bU (dOp bL (aj 0) (dI 1)) (aj 1))) (dOp bL (aj 0) (dI 0)) 1 [2]))
   bx) <|
  cF (jF aI)
abbrev aaB:List Str:=["_law_m", "_law_thing", "_law_word", "_law_lacks_here", "_law_most"]
def abJ(dY:SpD)(bp:SpD)(bT:SpD):TSd:=
  bA (dU (dOp bL (aj 1) (dI 0)) (gN 2)) <|
  bA (dU (bH dY (ah (aj 0) (ah (aj 1) aI))) (gN 3)) <|
  bA (dIf (aJ (dOp (acv true) (aj 3) (dC (.d .none))))
   (cF (eo (ah (dS "unknown") (ah (aj 3) aI))))
   bx) <|
  bA (dU (lC [(dS "group",dI 4),(dS "wish",dI 8),(dS "store",dI 4),(dS "door",dI 6),(dS "rule",dI 4)]) (gN 4)) <|
  bA (dIf (aJ (ajM (aj 2) (aj 4)))
   (bA (dIf (dOr (aJ (dOp (mj false) (dOp bL (aj 1) (dI 1)) (bH bp (ah (aj 0) (ah (aj 2) aI))))) (vC (aJ (dOp bU (aj 2) (dS "wish"))) (aJ (dOp (mj false) (dOp bL (aj 1) (dI 1)) (bf (aj 0) (dS "past"))))))
    (cF (eo (ah (dS "known") (ah (dOp bL (aj 1) (dI 1)) aI))))
    bx) <|
   dIf (aJ (dOp bU (dCB jC (ah (bH bp (ah (aj 0) (ah (aj 2) aI))) aI)) (bf (aj 4) (aj 2))))
    (cF (eo (ah (dS "many") (ah (bf (aj 4) (aj 2)) aI))))
    bx)
   bx) <|
  bA (dIf (vC (aJ (dOp bU (aj 2) (dS "edition"))) (aJ (dOp bU (dCB jC (ah (bf (bf (bf (aj 0) (dS "data")) (dOp bL (aj 1) (dI 1))) (dS "editions")) aI)) (dI 9))))
   (cF (eo (ah (dS "many") (ah (dI 9) aI))))
   bx) <|
  bA (dIf (vC (aJ (dOp bU (aj 2) (dS "back"))) (aJ (dOp bU (bf (bf (bf (aj 0) (dS "data")) (dOp bL (aj 1) (dI 1))) (dS "edition")) (dI 1))))
   (cF (eo (ah (dS "noback") (ah (dC (.d .none)) aI))))
   bx) <|
  bA (dIf (vC (aJ (dOp bU (aj 2) (dS "end"))) (aJ (dOp jA (bH bT (ah (aj 0) (ah (dOp bL (aj 1) (dI 1)) (ah (dOp bL (aj 1) (dI 2)) aI)))) (jF aI))))
   (cF (eo (ah (dS "used") (ah (dOp bL (bH bT (ah (aj 0) (ah (dOp bL (aj 1) (dI 1)) (ah (dOp bL (aj 1) (dI 2)) aI)))) (dI 0)) aI))))
   bx) <|
  cF (eo (ah (dS "done") (ah (dC (.d .none)) aI)))
abbrev qg:List Str:=["thing"]
def p6:TSd:=
  cF (abk (dCB lS (ah (aj 0) (ah (dC (.t "int")) aI))) (afL (dCB lS (ah (aj 0) (ah (dC (.t "bool")) aI)))))
abbrev oG:List Str:=["thing", "low", "high"]
def nL(dy:SpD):TSd:=
  cF (abk (bH dy (ah (aj 0) aI)) (lT aeK aeK (aj 1) (aj 0) (aj 2)))
abbrev vg:List Str:=["form", "part", "low", "high"]
def uR(bD:SpD)(cR:SpD):TSd:=
  bA (dIf (aJ (dOp bU (aj 0) (dS "word")))
   (cF (bH bD (ah (aj 1) aI)))
   bx) <|
  bA (dIf (aJ (dOp bU (aj 0) (dS "sort")))
   (cF (abk (dCB lS (ah (aj 1) (ah (dC (.t "str")) aI))) (dOp (ab8 false) (aj 1) (dC (.d (.tuple [.str "wish",.str "store",.str "door",.str "rule"]))))))
   bx) <|
  bA (dU (ag8 kN (aj 0)) (gT 2 (de (gN 2) (de (gN 3) pR)))) <|
  cF (bH cR (ah (aj 1) (ah (aj 2) (ah (aj 3) aI))))
abbrev oe:List Str:=["forms", "deed", "copies", "keep"]
def nr:TSd:=
  bA (dU (dOp bL (aj 1) (dOp ip (aai (aj 0) (dS "copies")) (dI 1))) (gN 2)) <|
  bA (dU (dOp bL (aj 1) (dOp ip (aai (aj 0) (dS "keep")) (dI 1))) (gN 3)) <|
  cF (dOp aeK (aj 3) (dCB aeH (ah (dOp agC (aj 2) (dI 1)) (ah (dI 0) aI))))
abbrev tU:List Str:=["thing", "forms", "form", "part"]
def uH(d3:SpD)(cQ:SpD):TSd:=
  bA (dIf (dOr (wg (aJ (dCB lS (ah (aj 0) (ah (dC (.t "tuple")) aI))))) (dOr (wg (aj3 (aj 0))) (wg (aJ (dCB lS (ah (dOp bL (aj 0) (dI 0)) (ah (dC (.t "str")) aI)))))))
   (cF (dC (.d (.bool false))))
   bx) <|
  bA (dU (agw m7 (dOp bL (aj 0) (dI 0))) (gN 1)) <|
  bA (dIf (dOr (aJ (dOp (acv false) (aj 1) (dC (.d .none)))) (aJ (dOp jA (dCB jC (ah (aj 0) aI)) (dOp ip (dCB jC (ah (aj 1) aI)) (dI 1)))))
   (cF (dC (.d (.bool false))))
   bx) <|
  bA (ag3 (ahU (ah (aj 1) (ah (dSl (aj 0) (iO (dI 1)) dJ) aI))) (gT 2 (de (gN 2) (de (gN 3) pR)))
   (dIf (wg (aJ (bH d3 (ah (aj 2) (ah (aj 3) aI)))))
    (cF (dC (.d (.bool false))))
    bx)) <|
  cF (aln (dOp (ab8 true) (dS "keep") (aj 1)) (bH cQ (ah (aj 1) (ah (aj 0) aI))))
abbrev iD:List Str:=["self"]
def iM:TSd:=
  cF (dCB dA (ah (lp aq (aj 0) "machine_names") aI))
abbrev j7:List Str:=["self"]
def jS:TSd:=
  cF (dCB dA (ah (lp aq (aj 0) "ranked") aI))
abbrev iF:List Str:=["self", "sort"]
def iK(aW:SpD)(bj:SpD):TSd:=
  bA (dIf (aJ (dOp bU (aj 1) (dS "machine")))
   (cF (gG aq "machines" aW (aj 0) aI))
   bx) <|
  bA (dIf (aJ (dOp bU (aj 1) (dS "wish")))
   (cF (gG aq "wishes" bj (aj 0) aI))
   bx) <|
  cF (wJ (dLC (qY (bf (lp aq (aj 0) "told_rows") (aj 1))) (gN 0) adb (dOp bL (aj 0) (dI 0)) 1 []))
abbrev pB:List Str:=["self", "name"]
abbrev ff:List Str:=["self", "deed", "sort", "name", "place"]
def eX(Ex:XE)(aE:SpD):TSd:=
  bA (dIf (aJ (dOp bU (dOp bL (aj 1) (dI 0)) (dS "end")))
   (dU (dSl (aj 1) (iO (dI 1)) dJ) (gT 2 (de (gN 2) (de (gN 3) pR))))
   (dIf (aJ (ajF j8 (dOp bL (aj 1) (dI 0))))
    (bA (dU (ag8 j8 (dOp bL (aj 1) (dI 0))) (gT 2 (de (gN 2) (de (gN 4) pR)))) <|
    dU (dOp bL (aj 1) (aj 4)) (gN 3))
    ahj)) <|
  dIf (aJ (dOp (mj true) (aj 3) (gG aq "names_of" aE (aj 0) (ah (aj 2) aI))))
   (iE aw ["name"] Ex (ah (aj 3) aI))
   (bx)
abbrev uL:List Str:=["self", "name"]
abbrev fF:List Str:=["self", "deed", "sort", "name"]
def fH(Ex:XE)(aE:SpD):TSd:=
  bA (aka 2 3 (ah (dOp bL (aj 1) (dI 0)) (ah (dOp bL (aj 1) (dI 1)) aI))) <|
  bA (dIf (vC (aJ (ajF jR (aj 2))) (aJ (dOp (mj false) (aj 3) (gG aq "names_of" aE (aj 0) (ah (aj 2) aI)))))
   (iE aO ["name"] Ex (ah (aj 3) aI))
   bx) <|
  dIf (vC (aJ (dOp bU (aj 2) (dS "wish"))) (aJ (dOp (mj false) (aj 3) (lp aq (aj 0) "ended"))))
   (iE aO ["name"] Ex (ah (aj 3) aI))
   (bx)
abbrev pf:List Str:=["self", "most"]
abbrev eD:List Str:=["self", "deed", "sort"]
def eJ(Ex:XE)(aE:SpD):TSd:=
  bA (dU (dOp bL (aj 1) (dI 0)) (gN 2)) <|
  bA (dIf (vC (aJ (ajF jR (aj 2))) (aJ (dOp ahF (dCB jC (ah (gG aq "names_of" aE (aj 0) (ah (aj 2) aI)) aI)) (ag8 jR (aj 2)))))
   (iE aD ["most"] Ex (ah (ag8 jR (aj 2)) aI))
   bx) <|
  dIf (vC (aJ (dOp bU (aj 2) (dS "edition"))) (aJ (dOp ahF (dCB jC (ah (bf (bf (lp aq (aj 0) "wished") (dOp bL (aj 1) (dI 1))) (dS "editions")) aI)) (dI 9))))
   (iE aD ["most"] Ex (ah (dI 9) aI))
   (bx)
abbrev eZ:List Str:=["self", "deed"]
def e9(Ex:XE):TSd:=
  dIf (vC (aJ (dOp bU (dOp bL (aj 1) (dI 0)) (dS "back"))) (aJ (dOp bU (bf (bf (lp aq (aj 0) "wished") (dOp bL (aj 1) (dI 1))) (dS "edition")) (dI 1))))
   (wY bX Ex (ah (dS "the told edition is the first one") aI))
   (bx)
abbrev vH:List Str:=["self", "name"]
abbrev f9:List Str:=["self", "deed", "user", "row"]
def gm(Ex:XE):TSd:=
  bA (dIf (aJ (dOp jA (dOp bL (aj 1) (dI 0)) (dS "end")))
   (ahj)
   bx) <|
  ag3 (eG (ag8 oK (dOp bL (aj 1) (dI 1)))) (gN 2)
   (oI (λ Ex=>ag3 (qY (bf (lp aq (aj 0) "told_rows") (aj 2))) (gN 3)
    (dIf (aJ (dOp bU (dOp bL (aj 3) (dI 1)) (dOp bL (aj 1) (dI 2))))
     (iE bw ["name"] Ex (ah (dOp bL (aj 3) (dI 0)) aI))
     bx)) Ex)
abbrev qo:List Str:=["book", "deed"]
def qR:TSd:=
  eL (gx (bf (lp aq (aj 0) "told_rows") (dOp bL (aj 1) (dI 0))) (dSl (aj 1) (iO (dI 1)) dJ))
abbrev oU:List Str:=["book", "deed", "name", "kind", "copies", "keep", "start", "hands"]
def oP:TSd:=
  bA (dU (dSl (aj 1) (iO (dI 1)) dJ) (gT 6 (de (gN 2) (de (gN 3) (de (gN 4) (de (gN 5) (de (gN 6) (de (gN 7) pR)))))))) <|
  bA (eL (gx (lp aq (aj 0) "ranked") (aj 2))) <|
  jr (lp aq (aj 0) "wished") (aj 2) (lC [(dS "kind",aj 3),(dS "copies",aj 4),(dS "keep",aj 5),(dS "edition",dI 1),(dS "editions",fX (ah (eo (ah (aj 6) (ah (aj 7) aI))) aI))])
abbrev tX:List Str:=["book", "deed", "sort", "name"]
def uM:TSd:=
  bA (dU (dSl (aj 1) (iO (dI 1)) dJ) (gT 2 (de (gN 2) (de (gN 3) pR)))) <|
  dIf (aJ (dOp bU (aj 2) (dS "wish")))
   (bA (eL (aaq (lp aq (aj 0) "ranked") (aj 3))) <|
   bA (ah5 (lp aq (aj 0) "wished") (aj 3)) <|
   eL (gx (lp aq (aj 0) "ended") (aj 3)))
   (jr (lp aq (aj 0) "told_rows") (aj 2) (wJ (aiQ (qY (bf (lp aq (aj 0) "told_rows") (aj 2))) (gN 0) (aJ (dOp jA (dOp bL (aj 0) (dI 0)) (aj 1))) (aj 0) 1 [3])))
abbrev tO:List Str:=["self", "deed", "by", "doing"]
def uq(Ex:XE)(dZ:SpD)(aU:SpX)(bo:SpX)(aS:SpX)(aV:SpX)(bq:SpX)(cS:SpD)(cz:SpD)(cY:SpD):TSd:=
  bA (dIf (wg (aJ (bH dZ (ah (aj 1) aI))))
   (wY bZ Ex (ah (dS "this is no deed") aI))
   bx) <|
  bA (eL (lE aq "refuse_unknown" aU Ex (aj 0) (ah (aj 1) aI))) <|
  bA (eL (lE aq "refuse_known" bo Ex (aj 0) (ah (aj 1) aI))) <|
  bA (eL (lE aq "refuse_too_many" aS Ex (aj 0) (ah (aj 1) aI))) <|
  bA (eL (lE aq "refuse_no_back" aV Ex (aj 0) (ah (aj 1) aI))) <|
  bA (eL (lE aq "refuse_used" bq Ex (aj 0) (ah (aj 1) aI))) <|
  bA (dU (ajP ki (dOp bL (aj 1) (dI 0))) (gN 3)) <|
  bA (eL (aaN [(dG,cS),(eK,cz),(fb,cY)] (aj 3) (ah (aj 0) (ah (aj 1) aI)))) <|
  eL (gx (lp aq (aj 0) "done") (eo (ah (aj 2) (ah (aj 1) aI))))
abbrev nB:List Str:=["_law_e"]
def oE:TSd:=
  bA (dIf (aJ (ae7 (zo [(aw,false),(aO,false),(aD,false),(bw,false)]) (aj 0)))
   (cF (eo (ah (dS "nodeed") (ah (dC (.d .none)) aI))))
   bx) <|
  bA (dIf (aJ (ae7 (zo [(aw,true),(aO,false),(aD,false),(bw,false)]) (aj 0)))
   (cF (eo (ah (dS "unknown") (ah (xa [aw,aO,bw] (aj 0) "name") aI))))
   bx) <|
  bA (dIf (aJ (ae7 (zo [(aw,false),(aO,true),(aD,false),(bw,false)]) (aj 0)))
   (cF (eo (ah (dS "known") (ah (xa [aw,aO,bw] (aj 0) "name") aI))))
   bx) <|
  bA (dIf (aJ (ae7 (zo [(aw,false),(aO,false),(aD,true),(bw,false)]) (aj 0)))
   (cF (eo (ah (dS "many") (ah (xa [aD] (aj 0) "most") aI))))
   bx) <|
  bA (dIf (aJ (ae7 (zo [(aw,false),(aO,false),(aD,false),(bw,false)]) (aj 0)))
   (cF (eo (ah (dS "noback") (ah (dC (.d .none)) aI))))
   bx) <|
  bA (dIf (aJ (ae7 (zo [(aw,false),(aO,false),(aD,false),(bw,true)]) (aj 0)))
   (cF (eo (ah (dS "used") (ah (xa [aw,aO,bw] (aj 0) "name") aI))))
   bx) <|
  cF (eo (ah (dS "odd") (ah (dC (.d .none)) aI)))
abbrev xD:List Str:=["_law_some", "_law_thing", "_law_who", "_law_found", "_law_e"]
def xv(dE:SpX)(cP:SpD):TSd:=
  bA (aj5 (λ Ex =>
   dIf (aJ (dOp bU (aj 2) (dS "hand")))
    (dU (xl aq "do" dE "hand" Ex (aj 0) (ah (aj 1) aI)) (gN 3))
    (dU (wm aq "do" dE Ex (aj 0) (ah (aj 1) aI) (aj 2)) (gN 3))) (acG (zo [(aw,true),(aO,true),(aD,true),(bw,true)]) 4
   (cF (bH cP (ah (aj 4) aI))) (λ _ _ _ _=>False))) <|
  cF (eo (ah (dS "done") (ah (aj 3) aI)))
abbrev ql:List Str:=["_law_m", "_law_thing", "_law_word", "_law_name_here", "_law_editions", "_law_rest"]
def qO:TSd:=
  bA (ajr 2 (ah (dOp bL (aj 1) (dI 0)) (ah (dOp bL (aj 1) (dI 1)) aI)) (de (gN 2) (de (gN 3) pR))) <|
  dIf (aJ (dOp bU (aj 2) (dS "wish")))
   (bA (jr (aj 0) (dS "ranked") (yJ (bf (aj 0) (dS "ranked")) (jF (ah (aj 3) aI)))) <|
   bA (jr (bf (aj 0) (dS "data")) (aj 3) (lC [(dS "kind",dOp bL (aj 1) (dI 2)),(dS "copies",dOp bL (aj 1) (dI 3)),(dS "keep",dOp bL (aj 1) (dI 4)),(dS "edition",dI 1)])) <|
   jr (bf (bf (aj 0) (dS "data")) (aj 3)) (dS "editions") (jF (ah (eo (ah (dOp bL (aj 1) (dI 5)) (ah (dOp bL (aj 1) (dI 6)) aI))) aI)))
   (dIf (aJ (dOp bU (aj 2) (dS "copies")))
    (eL (zh (bf (bf (aj 0) (dS "data")) (aj 3)) (vX [(dS "copies",dOp bL (aj 1) (dI 2)),(dS "keep",dOp bL (aj 1) (dI 3))])))
    (dIf (aJ (dOp bU (aj 2) (dS "edition")))
     (bA (dU (yJ (bf (bf (bf (aj 0) (dS "data")) (aj 3)) (dS "editions")) (jF (ah (eo (ah (dOp bL (aj 1) (dI 2)) (ah (dOp bL (aj 1) (dI 3)) aI))) aI))) (gN 4)) <|
     eL (zh (bf (bf (aj 0) (dS "data")) (aj 3)) (vX [(dS "editions",aj 4),(dS "edition",dCB jC (ah (aj 4) aI))])))
     (dIf (aJ (dOp bU (aj 2) (dS "back")))
      (jr (bf (bf (aj 0) (dS "data")) (aj 3)) (dS "edition") (dOp agC (bf (bf (bf (aj 0) (dS "data")) (aj 3)) (dS "edition")) (dI 1)))
      (dIf (aJ (dOp bU (aj 2) (dS "rank")))
       (bA (dU (dLC (eG (bf (aj 0) (dS "ranked"))) (gN 0) (aJ (dOp jA (aj 0) (aj 1))) (aj 0) 1 [3]) (gN 5)) <|
       jr (aj 0) (dS "ranked") (yJ (yJ (dSl (aj 5) dJ (iO (dOp bL (aj 1) (dI 2)))) (jF (ah (aj 3) aI))) (dSl (aj 5) (iO (dOp bL (aj 1) (dI 2))) dJ)))
       bx))))
abbrev yy:List Str:=["_law_m", "_law_thing", "_law_who", "_law_word"]
def xH(dw:SpD):TSd:=
  bA (dU (dOp bL (aj 1) (dI 0)) (gN 3)) <|
  bA (dIf (aJ (dOp (mj false) (aj 3) (eo (ah (dS "group") (ah (dS "store") (ah (dS "door") (ah (dS "rule") aI)))))))
   (jr (aj 0) (aj 3) (yJ (bf (aj 0) (aj 3)) (jF (ah (dCB tQ (ah (dSl (aj 1) (iO (dI 1)) dJ) aI)) aI))))
   (dIf (aJ (dOp bU (aj 3) (dS "empty")))
    (jr (aj 0) (dS "emptied") aeu)
    (dIf (aJ (dOp bU (aj 3) (dS "fill")))
     (jr (aj 0) (dS "emptied") (dLC (eG (bf (aj 0) (dS "emptied"))) (gN 0) (aJ (dOp jA (aj 0) (dOp bL (aj 1) (dI 1)))) (aj 0) 1 [1]))
     (dIf (vC (aJ (dOp bU (aj 3) (dS "end"))) (aJ (dOp bU (dOp bL (aj 1) (dI 1)) (dS "wish"))))
      (bA (jr (aj 0) (dS "ranked") (dLC (eG (bf (aj 0) (dS "ranked"))) (gN 0) (aJ (dOp jA (aj 0) (dOp bL (aj 1) (dI 2)))) (aj 0) 1 [1])) <|
      eL (gx (bf (aj 0) (dS "past")) (dOp bL (aj 1) (dI 2))))
      (dIf (aJ (dOp bU (aj 3) (dS "end")))
       (jr (aj 0) (dOp bL (aj 1) (dI 1)) (dLC (eG (bf (aj 0) (dOp bL (aj 1) (dI 1)))) (gN 0) (aJ (dOp jA (dOp bL (aj 0) (dI 0)) (dOp bL (aj 1) (dI 2)))) (aj 0) 1 [1]))
       (eL (bH dw (ah (aj 0) (ah (aj 1) aI))))))))) <|
  eL (gx (bf (aj 0) (dS "log")) (eo (ah (aj 2) (ah (aj 1) aI))))
abbrev ku:List Str:=["self"]
def kQ:TSd:=
  cF (dCB dA (ah (bf (lp aq (aj 0) "told_rows") (dS "group")) aI))
abbrev kf:List Str:=["self"]
def kB:TSd:=
  cF (dCB dA (ah (bf (lp aq (aj 0) "told_rows") (dS "store")) aI))
abbrev lG:List Str:=["self"]
def lQ:TSd:=
  cF (dCB dA (ah (bf (lp aq (aj 0) "told_rows") (dS "door")) aI))
abbrev lH:List Str:=["self"]
def lI:TSd:=
  cF (dCB dA (ah (bf (lp aq (aj 0) "told_rows") (dS "rule")) aI))
abbrev ji:List Str:=["self"]
def jn:TSd:=
  cF (dCB aax (ah (lp aq (aj 0) "emptied_names") aI))
abbrev qa:List Str:=["self"]
def qw:TSd:=
  cF (dCB dA (ah (lp aq (aj 0) "done") aI))
abbrev kh:List Str:=["wish", "twin"]
def kL:TSd:=
  bA (dU (dCB x8 (ah (aj 0) aI)) (gN 1)) <|
  bA (jr (aj 1) (dS "editions") (gX (dCB dA (ah (bf (aj 0) (dS "editions")) aI)))) <|
  cF (aj 1)
abbrev n8:List Str:=["self", "name"]
def nX(Ex:XE)(bD:SpD)(cn:SpD):TSd:=
  bA (dIf (dOr (wg (aJ (bH bD (ah (aj 1) aI)))) (aJ (sj (aj 1) (lp aq (aj 0) "wished"))))
   (iE aw ["name"] Ex (ah (aj 1) aI))
   bx) <|
  cF (bH cn (ah (bf (lp aq (aj 0) "wished") (aj 1)) aI))
abbrev tZ:List Str:=["_law_some", "_law_found"]
def tH(b9:SpD)(bj:SpD)(ck:SpD)(cA:SpD)(cD:SpD)(bP:SpD)(aW:SpD)(dg:SpD)(bF:SpX):TSd:=
  bA (dU (jF (ah (gX (gG aq "groups" b9 (aj 0) aI)) (ah (gX (gG aq "wishes" bj (aj 0) aI)) (ah (gX (gG aq "stores" ck (aj 0) aI)) (ah (gX (gG aq "doors" cA (aj 0) aI)) (ah (gX (gG aq "rules" cD (aj 0) aI)) (ah (gX (gG aq "emptied" bP (aj 0) aI)) aI))))))) (gN 1)) <|
  bA (dU (yJ (aj 1) (jF (ah (gX (gG aq "machines" aW (aj 0) aI)) (ah (gX (gG aq "log" dg (aj 0) aI)) aI)))) (gN 1)) <|
  cF (dCB ach (ah (yJ (aj 1) (dLC (eG (gX (gG aq "wishes" bj (aj 0) aI))) (gN 0) adb (gX (wj (lE aq "wish" bF (λ _ _ _=>False) (aj 1) (ah (aj 0) aI)))) 1 [0])) aI))
abbrev uE:List Str:=["_law_m", "_law_found"]
def tV:TSd:=
  bA (dU (fX (ah (bf (aj 0) (dS "group")) (ah (bf (aj 0) (dS "ranked")) (ah (bf (aj 0) (dS "store")) (ah (bf (aj 0) (dS "door")) (ah (bf (aj 0) (dS "rule")) (ah (bf (aj 0) (dS "emptied")) (ah (bf (aj 0) (dS "machine")) (ah (bf (aj 0) (dS "log")) aI))))))))) (gN 1)) <|
  cF (dCB ack (ah (dOp ae2 (aj 1) (aiQ (eG (bf (aj 0) (dS "ranked"))) (gN 0) adb (gX (wj (bf (bf (aj 1) (dS "data")) (aj 0)))) 1 [0])) aI))
abbrev nM:List Str:=["_law_some", "_law_name_here", "_law_e"]
def n9(bF:SpX):TSd:=
  bA (aj5 (λ Ex =>
   eL (lE aq "wish" bF Ex (aj 0) (ah (aj 1) aI))) (acG (zo [(aw,true)]) 2
   (cF (dOp bU (xa [aw] (aj 2) "name") (aj 1))) (λ _ _ _ _=>False))) <|
  cF (dC (.d (.bool false)))
abbrev ahK:List Str:=["_law_script", "_law_bag_here", "_law_machines_here", "_law_some", "_law_m", "_law_begun", "_law_thing", "_law_due_here"]
def ajw(gq:SpD)(cC:SpD)(cO:SpX)(gg:SpD)(aR:SpD)(fc:SpD)(d5:SpD)(du:SpD)(dv:SpD)(bR:SpD)(bS:SpD)(bB:SpD):TSd:=
  bA (dU (bH gq (ah (aj 0) aI)) (gN 1)) <|
  bA (dU (bH cC (ah (aj 1) aI)) (gN 2)) <|
  bA (dU (aev aq cO (λ _ _ _=>False) (ah (gX (dCB dA (ah (aj 2) aI))) aI)) (gN 3)) <|
  bA (dU (bH gg (ah (aj 2) aI)) (gN 4)) <|
  bA (dU (dLC (eG (dSl (dS "abcd") dJ (iO (dOp ip (dI 2) (bH aR (ah (aj 1) (ah (dI 3) aI))))))) (gN 0) adb (eo (ah (dS "wish") (ah (aj 0) (ah (dS "front") (ah (dI 1) (ah (dI 0) (ah (dI 0) (ah (dI 1) aI)))))))) 1 []) (gN 5)) <|
  bA (dU (yJ (aj 5) (dSl (jF (ah (eo (ah (dS "door") (ah (dS "c") (ah (dS "a") aI)))) (ah (eo (ah (dS "store") (ah (dS "b") (ah (dS "b") aI)))) (ah (eo (ah (dS "rule") (ah (dS "a") (ah (dS "c") (ah (dI 3) (ah (dI 1) (ah (dI 0) aI))))))) aI)))) dJ (iO (bH aR (ah (aj 1) (ah (dI 4) aI)))))) (gN 5)) <|
  bA (ag3 (eG (yJ (aj 5) (gX (dOp aeY (jF (ah (dC (.d .none)) aI)) (dOp ip (dI 15) (bH aR (ah (aj 1) (ah (dI 26) aI)))))))) (gN 6)
   (bA (dIf (aJ (dOp (acv false) (aj 6) (dC (.d .none))))
    (dU (bH fc (ah (aj 1) (ah (aj 4) aI))) (gN 6))
    bx) <|
   bA (dU (bH d5 (ah (aj 4) (ah (aj 6) aI))) (gN 7)) <|
   bA (dIf (aJ (dOp jA (bH du (ah (aj 3) (ah (aj 6) (ah (dS "hand") aI)))) (aj 7)))
    (cF (dC (.d (.bool false))))
    bx) <|
   bA (dIf (aJ (dOp bU (dOp bL (aj 7) (dI 0)) (dS "done")))
    (eL (bH dv (ah (aj 4) (ah (aj 6) (ah (dS "hand") aI)))))
    bx) <|
   bA (dIf (aJ (dOp jA (bH bR (ah (aj 3) aI)) (bH bS (ah (aj 4) aI))))
    (cF (dC (.d (.bool false))))
    bx) <|
   dIf (wg (aJ (dCB adh (ah (dLC (eG (dS "abcdef")) (gN 0) (aJ (dOp (mj true) (aj 0) (bf (aj 2) (dS "ranked")))) (bH bB (ah (aj 1) (ah (aj 0) aI))) 1 [3,4]) aI))))
    (cF (dC (.d (.bool false))))
    bx)) <|
  cF (dC (.d (.bool true)))
def btw(i lo hi:Int):Bool:=decide (lo<=i)&&decide (i<=hi)
def sorts:List Str:=["wish", "store", "door", "rule"]
def ahh(z:Str):Bool:=decide (z∈sorts)
theorem ago{z:Str}:inA (.str z) (sorts.map PyData.str)=ahh z:=by
 unfold inA ahh;rw[List.any_map]
 by_cases h:z∈sorts
 ·rw[decide_eq_true h];exact List.any_eq_true.mpr ⟨z,h,by show PyData.eqv (.str z) (.str z)=true;rw[cT,decide_eq_true rfl]⟩
 ·rw[decide_eq_false h];refine List.any_eq_false.mpr λ y hy=>?_;show ¬ PyData.eqv (.str y) (.str z)=true;rw[cT];simp only[decide_eq_true_eq];intro e;exact h (e ▸ hy)
theorem aft{z:Str}(h:acz z=true):uU (.str z) (sorts.map PyData.str)=true:=by
 have e1:okD 1 (.str z)=true:=by simp only[okD];exact h
 have e2:okD 1 (.list (sorts.map PyData.str))=true:=by decide +kernel
 unfold uU;rw[k7 (by decide) e1,k7 (by decide) e2];rfl
inductive Cd | w | e | s | c | k | t | h | p | a
deriving DecidableEq
def cdF:Cd->Str
 | .w => "word" | .e => "sort" | .s => "share" | .c => "copies" | .k => "keep" | .t => "start" | .h => "hands" | .p => "place" | .a => "asks"
def cdL:Cd->Int
 | .s=>1 | .h=>1 | .a=>1 | _=>0
def cdH:Cd->Int
 | .s=>9 | .c=>6 | .k=>5 | .t=>2 | .h=>3 | .p=>7 | .a=>20 | _=>0
def tabS:List (Str×Str×List Cd):=[("group", "ws",[.w,.s]),("wish", "wwckth",[.w,.w,.c,.k,.t,.h]),("copies", "wck",[.w,.c,.k]),("edition", "wth",[.w,.t,.h]),("back", "w",[.w]),("rank", "wp",[.w,.p]),("store", "ww",[.w,.w]),("door", "ww",[.w,.w]),("rule", "wwack",[.w,.w,.a,.c,.k]),("empty", "w",[.w]),("fill", "w",[.w]),("end", "ew",[.e,.w])]
theorem ahi:∀ x∈tabS,x.2.2.length<=6/\1<=x.2.2.length:=by decide +kernel
theorem acr:∀ x∈tabS,gF m7 x.1=some (.tuple (x.2.2.map λ c=>.str (cdF c))):=by intro x hx;simp only[tabS,List.mem_cons,List.not_mem_nil,or_false] at hx;rcases hx with rfl | rfl | rfl | rfl | rfl | rfl | rfl | rfl | rfl | rfl | rfl | rfl<;>rfl
def dd(z:Str)(ds:List PyData):PyData:=.tuple (.str z::ds)
def isW:PyData->Bool
 | .str z=>wd z
 | _=>false
def inB(lo hi:Int):PyData->Bool
 | .int i=>btw i lo hi
 | _=>false
def Fl(d:PyData):Prop:=(∃ y:Str,d=.str y/\acz y=true/\y.length<=100000)\/(∃ i:Int,d=.int i)\/d=.none
def aij:PyData->Bool
 | .int _=>true
 | _=>false
def dy:SpD:=λ ws M Q=>∃ d,ws=[.d d]/\Fl d/\Q (.d (.bool (aij d))) M
theorem vd:Ln dy 1:=by rintro ws M Q ⟨d,rfl,_⟩;rfl
theorem qZ:Rd dy p6 qg:=by
 rintro ws M Q ⟨d,rfl,hf,k⟩;refine⟨_,rfl,_,_,_,rfl,.d,.int,_,rfl,?_⟩;rcases hf with ⟨y,rfl,_⟩ | ⟨i,rfl⟩ | rfl
 ·exact fh k
 ·exact si ⟨_,rfl,_,_,_,rfl,.d,.bool,_,rfl,k⟩
 ·exact fh k
def cR:SpD:=λ ws M Q=>∃ (d:PyData) (lo hi:Int),ws=[.d d,.d (.int lo),.d (.int hi)]/\Fl d/\Q (.d (.bool (inB lo hi d))) M
theorem rN:Ln cR 3:=by rintro ws M Q ⟨i,lo,hi,rfl,_⟩;rfl
theorem pS:Rd cR (nL dy) oG:=by
 rintro ws M Q ⟨d,lo,hi,rfl,hf,k⟩;refine⟨_,rfl,d,rfl,hf,_,rfl,?_⟩;rcases hf with ⟨y,rfl,_⟩ | ⟨i,rfl⟩ | rfl
 ·exact fh k
 ·refine si ⟨_,rfl,_,rfl,.inl ⟨_,_,rfl,rfl,_,rfl,?_⟩⟩;have k':Q (.d (.bool (btw i lo hi))) M:=k;unfold btw at k'
  by_cases h:lo<=i
  ·rw[decide_eq_true h] at k' ⊢;exact si ⟨_,rfl,.inl ⟨_,_,rfl,rfl,k'⟩⟩
  ·rw[decide_eq_false h] at k' ⊢;exact fh k'
 ·exact fh k
def bD:SpD:=λ ws M Q=>∃ d,ws=[.d d]/\Fl d/\Q (.d (.bool (isW d))) M
theorem we:Ln bD 1:=by rintro ws M Q ⟨d,rfl,_⟩;rfl
theorem alp(c:Nat):(!decide ((⟨#[c]⟩:Str).cps.toList<("a" : Str).cps.toList))=decide (97<=c)/\(!decide (("z" : Str).cps.toList<(⟨#[c]⟩:Str).cps.toList))=decide (c<=122):=by
 have ea:("a" : Str).cps.toList=[97]:=by decide +kernel
 have ez:("z" : Str).cps.toList=[122]:=by decide +kernel
 have ec:(⟨#[c]⟩:Str).cps.toList=[c]:=rfl;rw[ea,ez,ec,lt1,lt1];constructor
 ·by_cases h:c<97
  ·rw[decide_eq_true h,decide_eq_false (by omega)];rfl
  ·rw[decide_eq_false h,decide_eq_true (by omega)];rfl
 ·by_cases h:122<c
  ·rw[decide_eq_true h,decide_eq_false (by omega)];rfl
  ·rw[decide_eq_false h,decide_eq_true (by omega)];rfl
theorem uB:Rd bD uV tw:=by
 rintro ws M Q ⟨d,rfl,hf,k⟩;have s16':=s16;refine⟨_,rfl,_,_,_,rfl,.d,.str,_,rfl,?_⟩;rcases hf with ⟨z,rfl,_,hl⟩ | ⟨i,rfl⟩ | rfl
 ·have hfit:acH (.d (.str z))=true:=decide_eq_true (by omega);have k':Q (.d (.bool (wd z))) M:=k;refine a9 (by rw[ajE];rfl) ⟨_,rfl,_,_,rfl,rfl,hfit,.inl ⟨_,_,rfl,rfl,_,rfl,?_⟩⟩;have no:¬ (1<=z.length/\z.length<=8)->Q (.d (.bool false)) M:=λ h=>by
   have e:wd z=false:=by
    unfold wd
    by_cases h1:1<=z.length
    ·rw[decide_eq_false (show ¬ z.length<=8 from λ h2=>h ⟨h1,h2⟩)];simp
    ·rw[decide_eq_false h1];simp
   rw[e] at k';exact k'
  by_cases h1:1<=z.length
  ·refine bW (decide_eq_true (show(1:Int)<=(z.length:Nat) by omega)) (.inl ⟨_,_,rfl,rfl,_,rfl,?_⟩)
   by_cases h2:z.length<=8
   ·refine a9 (by rw[decide_eq_true (show((z.length:Nat):Int)<=8 by omega)];rfl) ⟨_,rfl,_,rfl,?_⟩;dsimp only;refine oW z.cps.toList (λ c=>W.d (.str ⟨#[c]⟩)) (λ c=>.bool (oF c)) (λ τ=>∃ x,τ=[x]) (by rw[str_len];omega) ⟨_,rfl⟩ (λ c hc τ hτ R h=>?_) (λ τ=>?_)
    ·obtain⟨x,rfl⟩:=hτ;obtain⟨q1,q2⟩:=alp c;have go:=h [some (.d (.str ⟨#[c]⟩))] ⟨_,rfl⟩;unfold oF at go;refine⟨_,rfl,.inr ⟨_,_,rfl,rfl,_,rfl,?_⟩⟩;refine lY (λ h0=>?_) (λ h0=>?_)
     ·rw[q1.symm.trans h0,Bool.true_and,<- q2] at go;exact .inr ⟨_,_,rfl,rfl,_,rfl,go⟩
     ·rw[q1.symm.trans h0,Bool.false_and] at go;exact⟨_,rfl,go⟩
    ·refine⟨z.cps.toList.map oF,by rw[List.map_map];rfl,?_⟩;have e:wd z=(z.cps.toList.map oF).all id:=by
      unfold wd;rw[decide_eq_true h1,decide_eq_true h2,List.all_map];rfl
     rw[e] at k';exact k'
   ·refine bW (by rw[decide_eq_false (show ¬ ((z.length:Nat):Int)<=8 by omega)];rfl) (no λ h=>h2 h.2)
  ·refine a9 (decide_eq_false (show ¬ (1:Int)<=(z.length:Nat) by omega)) ?_;exact⟨_,rfl,bW rfl (no λ h=>h1 h.1)⟩
 ·exact bW rfl k
 ·exact bW rfl k
def pG(c:Cd)(d:PyData):Bool:=if c=.w then isW d else if c=.e then (match d with | .str y=>ahh y | _=>false) else inB (cdL c) (cdH c) d
theorem acL(c:Cd):c ≠ .w->c ≠ .e->gF kN (cdF c)=some (.tuple [.int (cdL c),.int (cdH c)])/\cdF c ≠ "word" /\ cdF c ≠ "sort":= by intro h1 h2;cases c<;>first | exact absurd rfl h1 | exact absurd rfl h2 | exact⟨rfl,by decide +kernel,by decide +kernel⟩
def d3:SpD:=λ ws M Q=>∃ (c:Cd) (d:PyData),ws=[.d (.str (cdF c)),.d d]/\Fl d/\Q (.d (.bool (pG c d))) M
theorem wX:Ln d3 2:=by rintro ws M Q ⟨c,d,rfl,_⟩;rfl
theorem uk:Rd d3 (uR bD cR) vg:=by
 rintro ws M Q ⟨c,d,rfl,hf,k⟩
 by_cases h1:c=.w
 ·subst h1;refine⟨_,rfl,_,_,.d,.d,rfl,_,rfl,?_⟩;rw[cT,decide_eq_true (show cdF .w = "word" from rfl)];exact si ⟨_,rfl,d,rfl,hf,k⟩
 by_cases h2:c=.e
 ·subst h2;refine⟨_,rfl,_,_,.d,.d,rfl,_,rfl,?_⟩;rw[cT,decide_eq_false (show ¬ cdF .e = "word" by decide +kernel)];refine fh ⟨_,rfl,_,_,.d,.d,rfl,_,rfl,?_⟩;rw[cT,decide_eq_true (show cdF .e = "sort" from rfl)];refine si ⟨_,rfl,_,_,_,rfl,.d,.str,_,rfl,?_⟩;rcases hf with ⟨y,rfl,ha,_⟩ | ⟨i,rfl⟩ | rfl
  ·refine si ⟨_,rfl,_,sorts.map PyData.str,.d,.inr rfl,aft ha,?_⟩;rw[Bool.false_xor,ago];exact k
  ·exact fh k
  ·exact fh k
 ·obtain⟨g1,g2,g3⟩:=acL c h1 h2;refine⟨_,rfl,_,_,.d,.d,rfl,_,rfl,?_⟩;rw[cT,decide_eq_false g2];refine fh ⟨_,rfl,_,_,.d,.d,rfl,_,rfl,?_⟩;rw[cT,decide_eq_false g3];refine fh ⟨_,rfl,cdF c,_,rfl,g1,_,rfl,rfl,_,_,rfl,_,_,rfl,rfl,?_⟩;have e:pG c d=inB (cdL c) (cdH c) d:=by unfold pG;rw[if_neg h1,if_neg h2]
  rw[e] at k;exact⟨_,rfl,_,rfl,_,rfl,d,cdL c,cdH c,rfl,hf,k⟩
theorem dN{M:MH}{z:Str}{ds:List PyData}{j:Nat}{d:PyData}(h:((.str z:PyData)::ds)[j]? =some d):ixW M (.d (dd z ds)) (j:Int)=some (.d d):=by simp only[dd,ixW,vF h,Option.map_some]
theorem ake{M:MH}{z:Str}{ds:List PyData}:ixW M (.d (dd z ds)) 0=some (.d (.str z)):=dN (j:=0) rfl
def aj7(ds:List PyData)(d:PyData)(j:Nat):Bool:=decide (j<ds.length)&&PyData.eqv (ds.getD j .none) d&&(List.range j).all λ m=>!PyData.eqv (ds.getD m .none) d
theorem ace{ds:List PyData}{d:PyData}{j:Nat}(h:aj7 ds d j=true):acU ds d j:=by
 simp only[aj7,ae00,decide_eq_true_eq,List.all_eq_true,List.mem_range,Bool.not_eq_true'] at h;obtain⟨⟨h1,h2⟩,h3⟩:=h;refine⟨h1,λ y e=>?_,λ m y hm e=>?_⟩
 ·simpa [List.getD,e] using h2
 ·simpa [List.getD,e] using h3 m hm
def fJ(x:Str×Str×List Cd):List PyData:=x.2.2.map λ c=>.str (cdF c)
def kC(x:Str×Str×List Cd):Nat:=x.2.2.idxOf .c
def kK(x:Str×Str×List Cd):Nat:=x.2.2.idxOf .k
theorem k_is:∀ x∈tabS,Cd.k∈x.2.2->aj7 (fJ x) (.str "copies") (kC x)=true/\aj7 (fJ x) (.str "keep") (kK x)=true/\x.2.2[kC x]? =some .c/\x.2.2[kK x]? =some .k/\kC x+1=kK x:=by decide +kernel
theorem alQ:∀ x∈tabS,uU (.str "copies") (fJ x)=true/\uU (.str "keep") (fJ x)=true/\inA (.str "keep") (fJ x)=decide (Cd.k∈x.2.2):=by decide +kernel
def leK(a i:Int):Bool:=decide (i<=if 0 > a-1 then 0 else a-1)
def cQ:SpD:=λ ws M Q=>∃ x∈tabS,Cd.k∈x.2.2/\∃ (ds:List PyData) (a i:Int),ws=[.d (.tuple (fJ x)),.d (dd x.1 ds)]/\ds[kC x]? =some (.int a)/\ds[kK x]? =some (.int i)/\Q (.d (.bool (leK a i))) M
theorem r9:Ln cQ 2:=by rintro ws M Q ⟨x,_,_,ds,a,i,rfl,_⟩;rfl
theorem oZ:Rd cQ nr oe:=by
 rintro ws M Q ⟨x,hx,hk,ds,a,i,rfl,ha,hi,k⟩;obtain⟨h1,h2,_⟩:=k_is x hx hk;obtain⟨o1,o2,_⟩:=alQ x hx;have e1:ixW M (.d (dd x.1 ds)) (((kC x:Nat):Int)+1)=some (.d (.int a)):=dN (j:=kC x+1) (by simpa using ha);have e2:ixW M (.d (dd x.1 ds)) (((kK x:Nat):Int)+1)=some (.d (.int i)):=dN (j:=kK x+1) (by simpa using hi);refine⟨_,rfl,_,rfl,_,rfl,_,_,rfl,o1,ace h1,.inl ⟨_,_,rfl,rfl,_,_,rfl,e1,rfl,?_⟩⟩;refine⟨_,rfl,_,rfl,_,rfl,_,_,rfl,o2,ace h2,.inl ⟨_,_,rfl,rfl,_,_,rfl,e2,rfl,?_⟩⟩;exact⟨_,rfl,_,rfl,_,_,rfl,rfl,_,_,rfl,.inl ⟨_,_,rfl,rfl,k⟩⟩
def afh(x:Str×Str×List Cd)(ds:List PyData):Bool:=match ds.getD (kC x) .none,ds.getD (kK x) .none with
 | .int a,.int i=>leK a i
 | _,_=>false
def pJ(x:Str×Str×List Cd)(ds:List PyData)(j:Nat):Bool:=pG (x.2.2.getD j .w) (ds.getD j .none)
def aaw(x:Str×Str×List Cd)(ds:List PyData):Bool:=(List.range x.2.2.length).all (pJ x ds)&&(!decide (Cd.k∈x.2.2) || afh x ds)
def dZ:SpD:=λ ws M Q=>∃ x∈tabS,∃ ds:List PyData,ws=[.d (dd x.1 ds)]/\ds.length=x.2.2.length/\(∀ d∈ds,Fl d)/\Q (.d (.bool (aaw x ds))) M
theorem vR:Ln dZ 1:=by rintro ws M Q ⟨x,_,ds,rfl,_⟩;rfl
theorem ajU{n j:Nat}{f:Nat->Bool}(hj:j<n)(h:f j=false):(List.range n).all f=false:=by rw[List.all_eq_false];exact⟨j,List.mem_range.mpr hj,by simp[h]⟩
theorem aer{x:Str×Str×List Cd}{ds:List PyData}{j:Nat}{c:Cd}(hl:ds.length=x.2.2.length)(h:pJ x ds j=true)(hc:x.2.2[j]? =some c)(h1:c ≠ .w)(h2:c ≠ .e):∃ i:Int,ds[j]? =some (.int i):=by
 have hj:j<ds.length:=by rw[hl];exact(List.getElem?_eq_some_iff.mp hc).1
 have hd:ds[j]? =some ds[j]:=List.getElem?_eq_getElem hj;have e:pJ x ds j=inB (cdL c) (cdH c) ds[j]:=by simp only[pJ,List.getD,hc,hd,Option.getD_some];unfold pG;rw[if_neg h1,if_neg h2]
 rw[e] at h;rw[hd];cases hq:ds[j] with
 | int i=>exact⟨i,rfl⟩
 | _=>rw[hq] at h;cases h
theorem vq:Rd dZ (uH d3 cQ) tU:=by
 rintro ws M Q ⟨x,hx,ds,rfl,hl,hfl,k⟩;have s16':=s16;obtain⟨n6,n1⟩:=ahi x hx;refine⟨_,rfl,_,_,_,rfl,.d,.tuple,_,rfl,?_⟩;rw[show vo (dd x.1 ds) "tuple" = true from akJ _];refine fh ⟨_,rfl,_,.t,fh ?_⟩;refine⟨_,rfl,_,_,rfl,ake,rfl,_,_,_,rfl,.d,.str,_,rfl,?_⟩;rw[show vo (.str x.1) "str" = true from ajE _];refine fh ⟨_,rfl,_,_,rfl,ake,rfl,x.1,rfl,?_⟩;rw[acr x hx];have hfm:(fJ x).length=x.2.2.length:=by simp[fJ]
 have z2:(!PyData.eqv (.int ((ds.length+1:Nat):Int)) (.int (((fJ x).length:Int)+1)))=false:=by rw[ym,decide_eq_true (by omega)];rfl
 refine⟨_,rfl,rfl,_,rfl,fh ⟨_,rfl,_,_,rfl,rfl,rfl,_,rfl,_,_,rfl,rfl,rfl,.inl ⟨_,_,rfl,rfl,_,_,.d,.d,rfl,_,rfl,a9 (c:=!PyData.eqv (.int ((ds.length+1:Nat):Int)) (.int (((fJ x).length:Int)+1))) z2 ?_⟩⟩⟩;have hs:slW (.d (dd x.1 ds)) (some 1) none=some (.d (.tuple ds)):=by
  have e1:HT.sIx (ds.length+1) 0 (some 1)=1:=by
   simp only[HT.sIx]
   split<;>omega
  have e2:HT.sIx (ds.length+1) (ds.length+1) none=ds.length+1:=rfl;simp only[slW,dd,yw,D.cutD,List.length_cons,e1,e2];simp
 refine⟨_,rfl,_,rfl,_,rfl,_,hs,rfl,fJ x,ds,rfl,?_⟩;refine⟨λ i τ M'=>M'=M/\(∀ j<i,pJ x ds j=true)/\∃ y1 y2,τ=[some (.d (dd x.1 ds)),some (.d (.tuple (fJ x))),y1,y2],⟨rfl,λ j h=>by omega,_,_,rfl⟩,?_,?_⟩
 ·rintro i w τ M' hw ⟨rfl,hall,y1,y2,rfl⟩;obtain⟨j,hj,rfl⟩:=ah7 hw;obtain⟨hlt,hj2⟩:=List.getElem?_eq_some_iff.mp hj;rw[List.getElem_range] at hj2;subst hj2;have hi:i<x.2.2.length:=by simpa [hfm,hl] using hlt
  obtain⟨c,hc⟩:∃ c,x.2.2[i]? =some c:=⟨_,List.getElem?_eq_getElem hi⟩;obtain⟨d',hd'⟩:∃ d',ds[i]? =some d':=⟨_,List.getElem?_eq_getElem (by omega)⟩;have ef:(fJ x).getD i .none=.str (cdF c):=by simp[fJ,List.getD,hc]
  have ed:ds.getD i .none=d':=by simp[List.getD,hd']
  rw[ef,ed];have hpj:pJ x ds i=pG c d':=by simp only[pJ,List.getD,hc,hd',Option.getD_some]
  refine⟨_,rfl,rfl,_,_,rfl,_,_,rfl,rfl,_,rfl,_,rfl,c,d',rfl,hfl d' (List.mem_of_getElem? hd'),_,rfl,?_⟩;cases hb:pG c d' with
  | true =>
   refine fh ⟨rfl,λ j hj=>?_,_,_,rfl⟩
   by_cases hji:j=i
   ·rw[hji,hpj,hb]
   ·exact hall j (by omega)
  | false =>
   refine si ?_;have:aaw x ds=false:=by
    unfold aaw;rw[ajU hi (by rw[hpj,hb])];rfl
   rw[this] at k;exact k
 ·rintro τ M' ⟨rfl,hall,y1,y2,rfl⟩;have hlen:(agc (fJ x) ds).length=x.2.2.length:=by simp[agc,hfm,hl]
  rw[hlen] at hall;have hA:(List.range x.2.2.length).all (pJ x ds)=true:=by rw[List.all_eq_true];intro j hj;exact hall j (List.mem_range.mp hj)
  obtain⟨_,o2,o3⟩:=alQ x hx;refine⟨_,rfl,_,_,.d,.inr rfl,o2,_,rfl,?_⟩;rw[o3,Bool.true_xor];unfold aaw at k;rw[hA,Bool.true_and] at k
  by_cases hk:Cd.k∈x.2.2
  ·rw[decide_eq_true hk] at k ⊢;obtain⟨_,_,c1,c2,_⟩:=k_is x hx hk;obtain⟨a,ea⟩:=aer hl (hall _ (List.getElem?_eq_some_iff.mp c1).1) c1 (by decide) (by decide);obtain⟨i,ei⟩:=aer hl (hall _ (List.getElem?_eq_some_iff.mp c2).1) c2 (by decide) (by decide);refine fh ⟨_,rfl,_,rfl,x,hx,hk,ds,a,i,rfl,ea,ei,?_⟩;have:afh x ds=leK a i:=by simp only[afh,List.getD,ea,ei,Option.getD_some]
   rw[this] at k;exact k
  ·rw[decide_eq_false hk] at k ⊢;exact si k
theorem eqS(x:Str):PyData.eqv (.str x) (.str x)=true:=by rw[cT,decide_eq_true rfl]
theorem neS{x y:Str}(h:x≠y):PyData.eqv (.str x) (.str y)=false:=by rw[cT,decide_eq_false h]
theorem adi(zs:List Str)(hz:∀ y∈zs,wd y=true):okA 0 (zs.map PyData.str)=true:=by
 induction zs with
 | nil=>rfl
 | cons y l ih =>
  simp only[List.map_cons,okA,okD,ae00];exact⟨yh (hz y (by simp)),ih λ x hx=>hz x (by simp[hx])⟩
theorem wx{zs:List Str}(hz:∀ y∈zs,wd y=true):okD 1 (.list (zs.map PyData.str))=true:=by simp only[okD];exact adi zs hz
theorem akU{z:Str}{zs:List Str}(h:wd z=true)(hz:∀ y∈zs,wd y=true):uU (.str z) (zs.map PyData.str)=true:=by
 have e1:okD 1 (.str z)=true:=by simp only[okD];exact yh h
 unfold uU;rw[k7 (by decide) e1,k7 (by decide) (wx hz)];rfl
theorem akw(z:Str)(zs:List Str):inA (.str z) (zs.map PyData.str)=decide (z∈zs):=by
 unfold inA;rw[List.any_map]
 by_cases h:z∈zs
 ·rw[decide_eq_true h];exact List.any_eq_true.mpr ⟨z,h,eqS z⟩
 ·rw[decide_eq_false h];refine List.any_eq_false.mpr λ y hy=>?_;show ¬ PyData.eqv (.str y) (.str z)=true;rw[neS (λ e:y=z=>h (e ▸ hy))];simp
theorem tS(zs:List Str):cV zs=(zs.map PyData.str).map W.d:=by rw[List.map_map];rfl
theorem ll{z:Str}(h:wd z=true):Fl (.str z):=.inl ⟨z,rfl,yh h,by have:=(aeq h).2;omega⟩
theorem ajT{ds:List PyData}{i:Nat}{w:W}(h:(sP ds)[i]? =some w):∃ d,ds[i]? =some d/\w=.d (.tuple [.int (i:Nat),d]):=by
 have h':(sP (ds.map id))[i]? =some w:=by rw[List.map_id];exact h
 exact ac6 h'
structure Nms(zs:List Str):Prop where
 w:∀ z∈zs,wd z=true
 nd:zs.Nodup
 h1:1<=zs.length
 h8:zs.length<=8
abbrev jo(zs:List Str):PyData:=.list (zs.map PyData.str)
def bQ:SpX:=λ ws M Q _=>∃ zs,Nms zs/\ws=[.d (jo zs)]/\Q (.d .none) M
theorem l5:LnX bQ 1:=by rintro ws M Q E ⟨zs,_,rfl,_⟩;rfl
theorem lj:RdX bQ (λ Ex=>jd Ex bD) jk:=by
 rintro ws M Q E ⟨zs,N,rfl,k⟩;have h1:=N.h1;have h8:=N.h8;refine⟨_,rfl,_,_,_,rfl,.d,.list,_,rfl,?_⟩;rw[akx];refine fh ⟨_,rfl,_,.l,a9 ?_ ⟨_,rfl,zs.map PyData.str,rfl,λ i τ M'=>M'=M/\∃ x2 x3,τ=[some (.d (jo zs)),x2,x3],⟨rfl,_,_,rfl⟩,?_,?_⟩⟩
 ·cases zs with
  | nil=>simp at h1
  | cons z zs=>rfl
 ·rintro i w τ M' hw ⟨rfl,x2,x3,rfl⟩;obtain⟨d,hd,rfl⟩:=ajT hw;rw[List.getElem?_map] at hd;obtain⟨z,hz,rfl⟩:=Option.map_eq_some_iff.mp hd;have hi:=(List.getElem?_eq_some_iff.mp hz).1;have wz:=N.w z (List.mem_of_getElem? hz);have ct:D.cutD (zs.map PyData.str) none (some ((i:Nat):Int))=(zs.take i).map PyData.str:=by rw[iS (by rw[lm];omega),List.map_take]
  refine⟨_,rfl,rfl,_,_,rfl,_,_,rfl,rfl,?_⟩;refine⟨_,rfl,_,_,rfl,rfl,_,rfl,a9 (decide_eq_false (show ¬ (8:Int)<=(i:Nat) by omega)) ⟨_,rfl,_,rfl,ll wz,_,rfl,?_⟩⟩;rw[show isW (.str z)=true from wz];refine fh ⟨_,rfl,_,rfl,_,rfl,_,rfl,_,rfl,rfl,.str z,D.cutD (zs.map PyData.str) none (some ((i:Nat):Int)),.d,.inl .d,by rw[ct];exact akU wz λ y hy=>N.w y (List.mem_of_mem_take hy),_,rfl,?_⟩;rw[ct,akw,decide_eq_false (afF N.nd hz)];exact fh ⟨rfl,_,_,rfl⟩
 ·rintro τ M' ⟨rfl,x2,x3,rfl⟩;exact k
inductive Sr | g | s | o | u
deriving DecidableEq
def Sr.nm:Sr->Str | .g => "group" | .s => "store" | .o => "door" | .u => "rule"
structure Rw where
 z:Str
 w:PyData
 r:List PyData
def Rw.ds(r:Rw):List PyData:=.str r.z::r.w::r.r
def Rw.v(r:Rw):Str:=match r.w with | .str v=>v | _ => ""
abbrev rwD(rs:List Rw):List PyData:=rs.map λ r=>.tuple r.ds
structure Wi where
 k:PyData
 c:PyData
 p:PyData
 n:PyData
 ed:List PyData
 a:Addr
 l:Addr
abbrev wk(x:Wi):List (Key×W):=[(.inr "kind",.d x.k),(.inr "copies",.d x.c),(.inr "keep",.d x.p),(.inr "edition",.d x.n),(.inr "editions",.m x.l)]
inductive Ro | b | q | r | w | e | t | d | x (t:Sr) | a (z:Str) | l (z:Str)
deriving DecidableEq
abbrev Rm:=Addr->Option Ro
structure Ads where
 b:Addr
 q:Addr
 r:Addr
 w:Addr
 e:Addr
 t:Addr
 d:Addr
structure Bs where
 ms:List Str
 em:List Str
 rs:List Str
 es:List Str
 T:List (Str×Wi)
 R:Sr->List Rw
 x:Sr->Addr
 dn:List PyData
abbrev FB(ms:List Str)(A:Ads):List (Str×W):=[("machine_names",.d (jo ms)),("emptied_names",.m A.q),("ranked",.m A.r),("wished",.m A.w),("ended",.m A.e),("told_rows",.m A.t),("done",.m A.d)]
abbrev nJ(x:Sr->Addr):List (Key×W):=[(.inr "group",.m (x .g)),(.inr "store",.m (x .s)),(.inr "door",.m (x .o)),(.inr "rule",.m (x .u))]
def kvT(T:List (Str×Wi)):List (Key×W):=T.map λ x=>(.inr x.1,.m x.2.a)
inductive Cell(A:Ads) (S:Bs):Ro->Addr->MO->Prop
 | b:Cell A S .b A.b (.ins aq (FB S.ms A))
 | q:Cell A S .q A.q (.lst (cV S.em))
 | r:Cell A S .r A.r (.lst (cV S.rs))
 | w:Cell A S .w A.w (.dic (kvT S.T))
 | e:Cell A S .e A.e (.lst (cV S.es))
 | t:Cell A S .t A.t (.dic (nJ S.x))
 | d:Cell A S .d A.d (.lst (S.dn.map W.d))
 | x (t:Sr):Cell A S (.x t) (S.x t) (.lst ((rwD (S.R t)).map W.d))
 | a (x:Str×Wi) (h:x∈S.T):Cell A S (.a x.1) x.2.a (.dic (wk x.2))
 | l (x:Str×Wi) (h:x∈S.T):Cell A S (.l x.1) x.2.l (.lst (x.2.ed.map W.d))
structure Bk(M:MH)(ρ:Rm)(A:Ads)(S:Bs):Prop where
 c:∀ {c p o},Cell A S c p o->M p=some o/\ρ p=some c
 tn:(S.T.map (·.1)).Nodup
theorem cne{ρ:Rm}{x y:Addr}{c c':Ro}(h:ρ x=some c)(h':ρ y=some c')(n:c≠c'):x≠y:=λ e=>n (by rw[e,h'] at h;exact(Option.some.inj h).symm)
theorem cno{ρ:Rm}{x y:Addr}{c:Ro}(h:ρ x=none)(h':ρ y=some c):x≠y:=λ e=>by rw[e,h'] at h;cases h
section
variable {M M':MH}{ρ:Rm}{A:Ads}{S S':Bs}
theorem Bk.hb(B:Bk M ρ A S):M A.b=some (.ins aq (FB S.ms A)):=(B.c .b).1
theorem Bk.ext(B:Bk M ρ A S)(x:Ext M M'):Bk M' ρ A S:=⟨λ h=>⟨x _ _ (B.c h).1,(B.c h).2⟩,B.tn⟩
theorem Bk.same(B:Bk M ρ A S)(f:∀ q r,ρ q=some r->M' q=M q):Bk M' ρ A S:=⟨λ h=>⟨(f _ _ (B.c h).2).trans (B.c h).1,(B.c h).2⟩,B.tn⟩
theorem Bk.upd(B:Bk M ρ A S)(c0:Ro){p0:Addr}{o0:MO}(hp:ρ p0=some c0)(h0:∀ c p o,Cell A S' c p o->c=c0->p=p0/\o=o0)(h1:∀ c p o,Cell A S' c p o->c≠c0->Cell A S c p o)(tn:(S'.T.map (·.1)).Nodup):Bk (bC M p0 o0) ρ A S':=⟨λ {c p o} h=>by
 by_cases e:c=c0
 ·obtain⟨rfl,rfl⟩:=h0 c p o h e;exact⟨ao,by rw[e];exact hp⟩
 ·obtain⟨g1,g2⟩:=B.c (h1 c p o h e);exact⟨by rw[ar (cne g2 hp e)];exact g1,g2⟩,tn⟩
theorem Bk.alS(B:Bk M ρ A S)(rs:List Str):Bk (bC M A.r (.lst (cV rs))) ρ A {S with rs:=rs}:=B.upd .r (B.c .r).2 (λ c p o h e=>by cases h<;>first | exact⟨rfl,rfl⟩ | cases e) (λ c p o h n=>by cases h<;>first | exact absurd rfl n | (constructor;done) | (constructor;assumption)) B.tn
theorem Bk.amB(B:Bk M ρ A S)(es:List Str):Bk (bC M A.e (.lst (cV es))) ρ A {S with es:=es}:=B.upd .e (B.c .e).2 (λ c p o h e=>by cases h<;>first | exact⟨rfl,rfl⟩ | cases e) (λ c p o h n=>by cases h<;>first | exact absurd rfl n | (constructor;done) | (constructor;assumption)) B.tn
theorem Bk.amD(B:Bk M ρ A S)(dn:List PyData):Bk (bC M A.d (.lst (dn.map W.d))) ρ A {S with dn:=dn}:=B.upd .d (B.c .d).2 (λ c p o h e=>by cases h<;>first | exact⟨rfl,rfl⟩ | cases e) (λ c p o h n=>by cases h<;>first | exact absurd rfl n | (constructor;done) | (constructor;assumption)) B.tn
theorem Bk.amj(B:Bk M ρ A S){T:List (Str×Wi)}(hs:T.Sublist S.T):Bk (bC M A.w (.dic (kvT T))) ρ A {S with T:=T}:=B.upd .w (B.c .w).2 (λ c p o h e=>by cases h<;>first | exact⟨rfl,rfl⟩ | cases e) (λ c p o h n=>by
 cases h with
 | w=>exact absurd rfl n
 | a x h=>exact .a x (hs.subset h)
 | l x h=>exact .l x (hs.subset h)
 | _=>constructor) (B.tn.sublist (hs.map _))
def upR{α:Type}(f:Sr->α)(t:Sr)(y:α):Sr->α:=λ u=>if u=t then y else f u
theorem hZ{α:Type}(f:Sr->α)(t:Sr)(y:α):upR f t y t=y:=if_pos rfl
theorem nW{α:Type}{f:Sr->α}{t u:Sr}{y:α}(h:u≠t):upR f t y u=f u:=if_neg h
theorem Bk.amw(B:Bk M ρ A S)(t:Sr)(rs:List Rw):Bk (bC M (S.x t) (.lst ((rwD rs).map W.d))) ρ A {S with R:=upR S.R t rs}:=B.upd (.x t) (B.c (.x t)).2 (λ c p o h e=>by
 cases h with
 | x u =>
  injection e with e
  subst e;exact⟨rfl,by show MO.lst ((rwD (upR S.R u rs u)).map W.d)=_;rw[hZ]⟩
 | _=>cases e) (λ c p o h n=>by
 cases h with
 | x u =>
  have nu:u≠t:=λ e=>n (by rw[e]);have:=Cell.x (A:=A) (S:=S) u;show Cell A S (.x u) (S.x u) (.lst ((rwD (upR S.R t rs u)).map W.d));rw[nW nu];exact this
 | a x h=>exact .a x h
 | l x h=>exact .l x h
 | _=>constructor) B.tn
theorem Bk.newX(B:Bk M ρ A S)(t:Sr)(rs:List Rw){p:Addr}(hp:M p=none):Bk (bC (bC M p (.lst ((rwD rs).map W.d))) A.t (.dic (nJ (upR S.x t p)))) (λ q=>if q=p then some (.x t) else if q=S.x t then none else ρ q) A {S with R:=upR S.R t rs,x:=upR S.x t p}:=⟨λ {c q o} h=>by
 have old:∀ {c q o},Cell A S c q o->c ≠ .x t->c ≠ .t->bC (bC M p (.lst ((rwD rs).map W.d))) A.t (.dic (nJ (upR S.x t p))) q=some o/\(if q=p then some (.x t) else if q=S.x t then none else ρ q)=some c:=λ {c q o} h n nt=>by obtain⟨g1,g2⟩:=B.c h;have n1:=aT g1 hp;exact⟨by rw[ar (cne g2 (B.c .t).2 nt),ar n1];exact g1,by rw[if_neg n1,if_neg (cne g2 (B.c (.x t)).2 n)];exact g2⟩
 cases h with
 | t =>
  refine⟨ao,?_⟩;rw[if_neg (aT (B.c .t).1 hp),if_neg (cne (B.c .t).2 (B.c (.x t)).2 nofun)];exact(B.c .t).2
 | x u =>
  by_cases e:u=t
  ·subst e;show bC _ A.t _ (upR S.x u p u)=some (.lst ((rwD (upR S.R u rs u)).map W.d))/\(if upR S.x u p u=p then _ else _)=_;rw[hZ,hZ,ar (aT (B.c .t).1 hp).symm,ao,if_pos rfl];exact⟨rfl,rfl⟩
  ·show bC _ A.t _ (upR S.x t p u)=some (.lst ((rwD (upR S.R t rs u)).map W.d))/\(if upR S.x t p u=p then some (.x t) else if upR S.x t p u=S.x t then none else ρ (upR S.x t p u))=_;rw[nW e,nW e];exact old (.x u) (λ z=>e (by injection z)) nofun
 | b=>exact old .b nofun nofun
 | q=>exact old .q nofun nofun
 | r=>exact old .r nofun nofun
 | w=>exact old .w nofun nofun
 | e=>exact old .e nofun nofun
 | d=>exact old .d nofun nofun
 | a x h=>exact old (.a x h) nofun nofun
 | l x h=>exact old (.l x h) nofun nofun,B.tn⟩
theorem Bk.akD(B:Bk M ρ A S){z:Str}{y:Wi}(hz:z ∉ S.T.map (·.1))(ha:M y.a=none)(hl:M y.l=none)(al:y.a≠y.l)(f:∀ q o,q≠A.w->M q=some o->M' q=some o)(hw:M' A.w=some (.dic (kvT (S.T++[(z,y)]))))(h1:M' y.a=some (.dic (wk y)))(h2:M' y.l=some (.lst (y.ed.map W.d))):Bk M' (λ q=>if q=y.a then some (.a z) else if q=y.l then some (.l z) else ρ q) A {S with T:=S.T++[(z,y)]}:=by
 have old:∀ {c q o},Cell A S c q o->c ≠ .w->M' q=some o/\(if q=y.a then some (.a z) else if q=y.l then some (.l z) else ρ q)=some c:=λ {c q o} h n=>by obtain⟨g1,g2⟩:=B.c h;exact⟨f _ _ (cne g2 (B.c .w).2 n) g1,by rw[if_neg (aT g1 ha),if_neg (aT g1 hl)];exact g2⟩
 refine⟨λ {c q o} h=>?_,?_⟩
 ·cases h with
  | w=>exact⟨hw,by rw[if_neg (aT (B.c .w).1 ha),if_neg (aT (B.c .w).1 hl)];exact(B.c .w).2⟩
  | a x h =>
   rcases List.mem_append.mp h with h | h
   ·exact old (.a x h) nofun
   ·rw[List.mem_singleton.mp h];exact⟨h1,if_pos rfl⟩
  | l x h =>
   rcases List.mem_append.mp h with h | h
   ·exact old (.l x h) nofun
   ·rw[List.mem_singleton.mp h];exact⟨h2,by show(if y.l=y.a then _ else _)=_;rw[if_neg al.symm,if_pos rfl]⟩
  | b=>exact old .b nofun
  | q=>exact old .q nofun
  | r=>exact old .r nofun
  | e=>exact old .e nofun
  | t=>exact old .t nofun
  | d=>exact old .d nofun
  | x t=>exact old (.x t) nofun
 ·show((S.T++[(z,y)]).map (·.1)).Nodup;rw[List.map_append];exact List.nodup_append.mpr ⟨B.tn,by simp,λ a h1 b h2 e=>hz (by rw[List.mem_singleton.mp (show b∈[z] from h2)] at e;exact e ▸ h1)⟩
end
theorem nG:∀ {T:List (Str×Wi)} {x:Str×Wi},(T.map (·.1)).Nodup->x∈T->lA (kvT T) (.inr x.1)=some (.m x.2.a)
 | [],_,_,h=>nomatch h
 | v::T,x,nd,hx=>by
  rw[List.map_cons,List.nodup_cons] at nd;unfold lA kvT;rw[List.map_cons,List.find?_cons];rcases List.mem_cons.mp hx with rfl | hx
  ·rw[decide_eq_true rfl];rfl
  ·have n:v.1≠x.1:=λ e=>nd.1 (e ▸ List.mem_map.mpr ⟨x,hx,rfl⟩);rw[decide_eq_false (λ e=>n (Sum.inr.inj e))];exact nG nd.2 hx
theorem xU:∀ {T:List (Str×Wi)} {z:Str},z ∉ T.map (·.1)->lA (kvT T) (.inr z)=none
 | [],_,_=>rfl
 | v::T,z,h=>by rw[List.map_cons,List.mem_cons,not_or] at h;unfold lA kvT;rw[List.map_cons,List.find?_cons,decide_eq_false (λ e=>h.1 (Sum.inr.inj e).symm)];exact xU h.2
theorem aaa{T:List (Str×Wi)}{z:Str}{y:Wi}(hz:z ∉ T.map (·.1)):acy (kvT T) (.inr z) (.m y.a)=kvT (T++[(z,y)]):=by
 unfold acy;rw[if_neg]
 ·simp[kvT]
 ·rw[Bool.not_eq_true,List.any_eq_false];intro p hp;obtain⟨u,hu,rfl⟩:=List.mem_map.mp hp;simp only[decide_eq_true_eq];exact λ e=>hz (Sum.inr.inj e ▸ List.mem_map.mpr ⟨u,hu,rfl⟩)
theorem ad3(T:List (Str×Wi))(z:Str):yC (kvT T) (.inr z)=kvT (T.filter λ u=>decide (u.1≠z)):=by
 unfold yC kvT;rw[List.filter_map];congr 1;refine List.filter_congr λ u _=>?_;show decide ((.inr u.1:Key) ≠ .inr z)=decide (u.1≠z)
 by_cases h:u.1=z
 ·rw[h];simp
 ·rw[decide_eq_true h,decide_eq_true];exact λ e=>h (Sum.inr.inj e)
theorem jM(x:Sr->Addr)(t:Sr):lA (nJ x) (.inr t.nm)=some (.m (x t)):=by cases t<;>rfl
theorem aaI(x:Sr->Addr)(t:Sr)(p:Addr):acy (nJ x) (.inr t.nm) (.m p)=nJ (upR x t p):=by cases t<;>rfl
def Fr2(M:MH)(ρ:Rm)(M':MH)(ρ':Rm):Prop:=∀ c o,M c=some o->ρ c=none->M' c=some o/\ρ' c=none
theorem Fr2.trans{A B C:MH}{ρ ρ' ρ'':Rm}(h:Fr2 A ρ B ρ')(k:Fr2 B ρ' C ρ''):Fr2 A ρ C ρ'':=λ c o e n=>k c o (h c o e n).1 (h c o e n).2
theorem Fr2.ext{M M':MH}{ρ:Rm}(x:Ext M M'):Fr2 M ρ M' ρ:=λ c o e n=>⟨x c o e,n⟩
theorem Fr2.upd{M:MH}{ρ:Rm}{p:Addr}{r:Ro}{o:MO}(h:ρ p=some r):Fr2 M ρ (bC M p o) ρ:=λ c u e n=>⟨by rw[ar (cno n h)];exact e,n⟩
structure Pre(M0 M:MH)(ρ:Rm)(b:Addr)(fs:List (Str×W))(cs:List (Ro×Addr×MO)):Prop where
 hb:M b=some (.ins aq fs)
 cb:ρ b=some .b
 hc:∀ x∈cs,M x.2.1=some x.2.2/\ρ x.2.1=some x.1/\x.1 ≠ .b
 fr:∀ c o,c≠b->M0 c=some o->M c=some o/\ρ c=none
section
variable {M0 M:MH}{ρ:Rm}{b:Addr}{fs:List (Str×W)}{cs:List (Ro×Addr×MO)}
theorem Pre.put(P:Pre M0 M ρ b fs cs)(fs':List (Str×W)):Pre M0 (bC M b (.ins aq fs')) ρ b fs' cs:=
 ⟨ao,P.cb,λ x hx=>⟨by rw[ar (cne (P.hc x hx).2.1 P.cb (P.hc x hx).2.2)];exact(P.hc x hx).1,(P.hc x hx).2⟩,λ c o n e=>⟨by rw[ar n];exact(P.fr c o n e).1,(P.fr c o n e).2⟩⟩
theorem Pre.new(P:Pre M0 M ρ b fs cs)(c:Ro){p:Addr}(o:MO)(hp:M p=none)(nc:c ≠ .b):Pre M0 (bC M p o) (λ q=>if q=p then some c else ρ q) b fs ((c,p,o)::cs):=
 ⟨by rw[ar (aT P.hb hp)];exact P.hb,(if_neg (aT P.hb hp)).trans P.cb,λ x hx=>by
  rcases List.mem_cons.mp hx with rfl | hx
  ·exact⟨ao,if_pos rfl,nc⟩
  ·obtain⟨h1,h2,h3⟩:=P.hc x hx;exact⟨by rw[ar (aT h1 hp)];exact h1,(if_neg (aT h1 hp)).trans h2,h3⟩,λ c o n e=>by
  obtain⟨h1,h2⟩:=P.fr c o n e;exact⟨by rw[ar (aT h1 hp)];exact h1,(if_neg (aT h1 hp)).trans h2⟩⟩
theorem Pre.upd(P:Pre M0 M ρ b fs cs){c:Ro}{p:Addr}{o o':MO}{cs':List (Ro×Addr×MO)}(h:(c,p,o)∈cs)(nw:∀ c' u,M0 c'=some u->c'≠p)(hs:∀ y∈cs',y=(c,p,o')\/(y∈cs/\y.1≠c)):Pre M0 (bC M p o') ρ b fs cs':=by
 obtain⟨h1,h2,h3⟩:=P.hc _ h;refine⟨by rw[ar (cne P.cb h2 (Ne.symm h3))];exact P.hb,P.cb,λ x hx=>?_,λ c' u n e=>⟨by rw[ar (nw c' u e)];exact(P.fr c' u n e).1,(P.fr c' u n e).2⟩⟩;rcases hs x hx with rfl | ⟨hx,n⟩
 ·exact⟨ao,h2,h3⟩
 ·obtain⟨g1,g2,g3⟩:=P.hc x hx;exact⟨by rw[ar (cne g2 h2 n)];exact g1,g2,g3⟩
theorem acf{f:Str}{τ:DS}{Ed:Ed}{rest:TSd}(P:Pre M0 M ρ b fs cs)(hv:τ[0]? =some (some (.m b)))(c:Ro)(nc:c ≠ .b)(hf:fs.length<1000)(k:∀ p N ρ',Pre M0 N ρ' b (sL f (.m p) fs) ((c,p,.lst [])::cs)->rest Ed τ N):(bA (gy aq (aj 0) (fX aI) f) rest) Ed τ M:=
 ⟨few (by simp),λ p hp=>⟨_,hv,b,_,rfl,(P.new c _ hp nc).hb,hf,k p _ _ ((P.new c _ hp nc).put _)⟩⟩
end
def cO:SpX:=λ ws M Q _=>∃ b ms,Nms ms/\ws=[.m b,.d (jo ms)]/\M b=some (.ins aq [])/\∀ ρ A x M',A.b=b->Bk M' ρ A ⟨ms,[],[],[],[],λ _=>[],x,[]⟩->(∀ c o,c≠b->M c=some o->M' c=some o/\ρ c=none)->Q (.d .none) M'
theorem rX:LnX cO 2:=by rintro ws M Q E ⟨b,ms,_,rfl,_⟩;rfl
theorem pH:RdX cO (λ Ex=>oV Ex bQ) ni:=by
 rintro ws M Q E ⟨b,ms,N,rfl,h,k⟩;refine⟨_,rfl,ms,N,rfl,?_⟩;refine⟨_,rfl,_,_,rfl,.l,λ l hl=>⟨l,ms.map PyData.str,rfl,ao,_,rfl,b,_,rfl,sealed hl _ _ h,by decide,?_⟩⟩;have x1:=sealed (o:=.lst ((ms.map PyData.str).map W.d)) hl;have P1:Pre M (bC (zL (bC M l (.lst ((ms.map PyData.str).map W.d))) l) b (.ins aq (sL "machine_names" (.d (jo ms)) []))) (λ q=>if q=b then some .b else none) b (sL "machine_names" (.d (jo ms)) []) []:=⟨ao,if_pos rfl,nofun,λ c o n e=>⟨by rw[ar n];exact x1 _ _ e,if_neg n⟩⟩;refine acf P1 rfl .q nofun (by show 1<1000;decide) λ q N2 ρ2 P2=>acf P2 rfl .r nofun (by show 2<1000;decide) λ r N3 ρ3 P3=>?_;refine λ w hw=>⟨_,rfl,b,_,rfl,(P3.new .w _ hw nofun).hb,(by show 3<1000;decide),?_⟩;have P4:=(P3.new .w (.dic []) hw nofun).put (sL "wished" (.m w) (sL "ranked" (.m r) (sL "emptied_names" (.m q) (sL "machine_names" (.d (jo ms)) []))));refine acf P4 rfl .e nofun (by show 4<1000;decide) λ e N5 ρ5 P5 t ht=>?_;have P6:=P5.new .t (.dic []) ht nofun;have tM:∀ c' u,M c'=some u->c'≠t:=λ c' u ec=>by
  by_cases cb:c'=b
  ·rw[cb];exact aT P5.hb ht
  ·exact aT (P5.fr c' u cb ec).1 ht
 refine⟨few (by simp),λ xg hg=>⟨few (by simp),λ xs hs=>⟨few (by simp),λ xo ho=>⟨few (by simp),λ xu hu=>?_⟩⟩⟩⟩;have P10:=(((P6.new (.x .g) (.lst []) hg nofun).new (.x .s) (.lst []) hs nofun).new (.x .o) (.lst []) ho nofun).new (.x .u) (.lst []) hu nofun
 let x:Sr->Addr:=λ | .g=>xg | .s=>xs | .o=>xo | .u=>xu
 refine⟨(P10.hc (.t,t,.dic []) (by simp)).1,nJ x,rfl,(by show 4<=15;decide),(by show([.inr "group",.inr "store",.inr "door",.inr "rule"]:List Key).Nodup;decide +kernel),?_⟩;have P11:=P10.upd (c:=.t) (p:=t) (o:=.dic []) (o':=.dic (nJ x)) (cs':=[(.x .u,xu,.lst []),(.x .o,xo,.lst []),(.x .s,xs,.lst []),(.x .g,xg,.lst []),(.t,t,.dic (nJ x)),(.e,e,.lst []),(.w,w,.dic []),(.r,r,.lst []),(.q,q,.lst [])]) (by simp) tM (by simp);refine⟨_,rfl,b,_,rfl,P11.hb,(by show 5<1000;decide),?_⟩;have P12:=P11.put (sL "told_rows" (.m t) (sL "ended" (.m e) (sL "wished" (.m w) (sL "ranked" (.m r) (sL "emptied_names" (.m q) (sL "machine_names" (.d (jo ms)) []))))));refine⟨few (by simp),λ d hd=>⟨_,rfl,b,_,rfl,(P12.new .d (.lst []) hd nofun).hb,(by show 6<1000;decide),?_⟩⟩;have P13:=(P12.new .d (.lst []) hd nofun).put (FB ms ⟨b,q,r,w,e,t,d⟩);have g:∀ {c p o},(c,p,o)∈[(Ro.d,d,MO.lst []),(.x .u,xu,.lst []),(.x .o,xo,.lst []),(.x .s,xs,.lst []),(.x .g,xg,.lst []),(.t,t,.dic (nJ x)),(.e,e,.lst []),(.w,w,.dic []),(.r,r,.lst []),(.q,q,.lst [])]->_/\_:=λ {c p o} h=>⟨(P13.hc (c,p,o) h).1,(P13.hc (c,p,o) h).2.1⟩;refine k _ ⟨b,q,r,w,e,t,d⟩ x _ rfl ⟨λ {c p o} h=>?_,.nil⟩ P13.fr;cases h with
 | b=>exact⟨P13.hb,P13.cb⟩
 | x t =>
  cases t with
  | g=>exact g (c:=.x .g) (p:=xg) (o:=.lst []) (by simp)
  | s=>exact g (c:=.x .s) (p:=xs) (o:=.lst []) (by simp)
  | o=>exact g (c:=.x .o) (p:=xo) (o:=.lst []) (by simp)
  | u=>exact g (c:=.x .u) (p:=xu) (o:=.lst []) (by simp)
 | a x h=>cases h
 | l x h=>cases h
 | q=>exact g (c:=.q) (p:=q) (o:=.lst []) (by simp)
 | r=>exact g (c:=.r) (p:=r) (o:=.lst []) (by simp)
 | w=>exact g (c:=.w) (p:=w) (o:=.dic []) (by simp)
 | e=>exact g (c:=.e) (p:=e) (o:=.lst []) (by simp)
 | t=>exact g (c:=.t) (p:=t) (o:=.dic (nJ x)) (by simp)
 | d=>exact g (c:=.d) (p:=d) (o:=.lst []) (by simp)
inductive Sn | m | w | r (t:Sr)
deriving DecidableEq
def Sn.nm:Sn->Str | .m => "machine" | .w => "wish" | .r t=>t.nm
def nms(S:Bs):Sn->List Str | .m=>S.ms | .w=>S.rs | .r t=>(S.R t).map (·.z)
def aW:SpD:=λ ws M Q=>∃ ρ A S,ws=[.m A.b]/\Bk M ρ A S/\∀ l M',M l=none->Ext M M'->M'=bC M l (.lst (cV S.ms))->Q (.m l) M'
theorem kU:Ln aW 1:=by rintro ws M Q ⟨ρ,A,S,rfl,_⟩;rfl
theorem jI:Rd aW iM iD:=by
 rintro ws M Q ⟨ρ,A,S,rfl,B,k⟩;exact⟨_,rfl,A.b,_,_,rfl,B.hb,rfl,_,_,rfl,.l,λ l hl=>k l _ hl (Ext.new hl) (by rw[tS])⟩
def bj:SpD:=λ ws M Q=>∃ ρ A S,ws=[.m A.b]/\Bk M ρ A S/\∀ l M',M l=none->Ext M M'->M'=bC M l (.lst (cV S.rs))->Q (.m l) M'
theorem oh:Ln bj 1:=by rintro ws M Q ⟨ρ,A,S,rfl,_⟩;rfl
theorem lW:Rd bj jS j7:=by
 rintro ws M Q ⟨ρ,A,S,rfl,B,k⟩;exact⟨_,rfl,A.b,_,_,rfl,B.hb,rfl,_,_,rfl,.m (B.c .r).1,λ l hl=>k l _ hl (Ext.new hl) rfl⟩
theorem aj8{M:MH}(zs:List Str):acw M (.d (jo zs)) (cV zs):=by rw[tS];exact .l
theorem ahJ{M:MH}{l:Addr}{zs:List Str}(h:M l=some (.lst (cV zs))):ab5 M (.m l)=some zs.length:=by simp only[ab5,h];simp[cV]
inductive ib(ws:List W) (M:MH) (Q:QD):Prop
 | mk (ρ:Rm) (A:Ads) (S:Bs) (n:Sn) (z0:ws=[.m A.b,.d (.str n.nm)]) (B:Bk M ρ A S) (hl:∀ t,(S.R t).length<=900) (q:∀ w M',Ext M M'->acw M' w (cV (nms S n))->ab5 M' w=some (nms S n).length->acH w=true->Q w M'):ib ws M Q
def aE:SpD:=ib
theorem kT:Ln aE 2:=by rintro ws M Q ⟨ρ,A,S,n,rfl,_⟩;rfl
theorem ahl{M:MH}(r:Rw):ixW M (.d (.tuple r.ds)) 0=some (.d (.str r.z)):=dN (z:=r.z) (ds:=r.w::r.r) (j:=0) rfl
theorem amc{M:MH}(r:Rw):ixW M (.d (.tuple r.ds)) 1=some (.d r.w):=dN (z:=r.z) (ds:=r.w::r.r) (j:=1) rfl
theorem sk(t:Sr):t.nm ≠ "machine" /\ t.nm ≠ "wish" /\ t.nm ≠ "end" /\ t.nm ≠ "edition" /\ t.nm ≠ "back" /\ t.nm ≠ "empty" /\ t.nm ≠ "fill":= by cases t<;>decide +kernel
theorem jX:Rd aE (iK aW bj) iF:=by
 rintro ws M Q ⟨ρ,A,S,n,rfl,B,hl,k⟩;cases n with
 | m=>exact⟨_,rfl,_,_,.d,.d,rfl,_,rfl,bW (eqS _) ⟨_,rfl,A.b,_,rfl,B.hb,rfl,ρ,A,S,rfl,B,λ l M' h x e=>by
   have hm:M' l=some (.lst (cV S.ms)):=by rw[e];exact ao
   exact k _ M' x (.m hm) (ahJ hm) rfl⟩⟩
 | w=>exact⟨_,rfl,_,_,.d,.d,rfl,_,rfl,a9 (neS (by decide +kernel)) ⟨_,rfl,_,_,.d,.d,rfl,_,rfl,bW (eqS _) ⟨_,rfl,A.b,_,rfl,B.hb,rfl,ρ,A,S,rfl,B,λ l M' h x e=>by
   have hm:M' l=some (.lst (cV S.rs)):=by rw[e];exact ao
   exact k _ M' x (.m hm) (ahJ hm) rfl⟩⟩⟩
 | r t =>
  obtain⟨n1,n2,_⟩:=sk t;refine⟨_,rfl,_,_,.d,.d,rfl,_,rfl,a9 (neS n1) ⟨_,rfl,_,_,.d,.d,rfl,_,rfl,a9 (neS n2) ⟨S.x t,_,(B.c (.x t)).1,?_⟩⟩⟩;have nb:A.b≠S.x t:=cne (B.c .b).2 (B.c (.x t)).2 nofun;have nt:A.t≠S.x t:=cne (B.c .t).2 (B.c (.x t)).2 nofun;refine⟨_,rfl,A.b,_,_,rfl,(by rw[ar nb];exact B.hb),rfl,_,rfl,A.t,_,.inr t.nm,_,rfl,.inl (by rw[ar nt];exact(B.c .t).1),rfl,jM _ _,S.x t,_,rfl,ao,?_⟩;have hlt:=hl t;have e:(rwD (S.R t)).map W.d=(S.R t).map λ r=>W.d (.tuple r.ds):=by rw[List.map_map];rfl
  rw[e];refine oW (S.R t) (λ r=>W.d (.tuple r.ds)) (λ r=>.str r.z) (λ τ=>∃ x,τ=[x]) (by omega) ⟨_,rfl⟩ (λ r hr τ hτ R' h'=>?_) (λ τ=>?_)
  ·obtain⟨x,rfl⟩:=hτ;exact⟨_,rfl,_,_,rfl,ahl r,rfl,_,rfl,h' _ ⟨_,rfl⟩⟩
  ·refine⟨ao,?_⟩;rw[fQ,aac (by rw[<- e];exact(B.c (.x t)).1)];have e2:(S.R t).map (λ r=>PyData.str r.z)=(nms S (.r t)).map PyData.str:=by show _=((S.R t).map (·.z)).map PyData.str;rw[List.map_map];rfl
   rw[e2];exact k _ M (Ext.refl M) (aj8 _) (by simp[ab5]) rfl
inductive De
 | row (t:Sr) (r:Rw)
 | fq (z kd:Str) (c p s h:Int)
 | fin (n:Sn) (z:Str)
def De.nm:De->Str
 | .row t _=>t.nm
 | .fq _ _ _ _ _ _ => "wish"
 | .fin _ _ => "end"
def De.as:De->List PyData
 | .row _ r=>r.ds
 | .fq z kd c p s h=>[.str z,.str kd,.int c,.int p,.int s,.int h]
 | .fin n z=>[.str n.nm,.str z]
def deD(D:De):PyData:=dd D.nm D.as
inductive Out
 | unknown (z:Str)
 | known (z:Str)
 | many (n:Nat)
 | used (z:Str)
def xC:Out->Addr
 | .unknown _=>aw
 | .known _=>aO
 | .many _=>aD
 | .used _=>bw
def xF:Out->List (Str×W)
 | .unknown z=>[("name",.d (.str z))]
 | .known z=>[("name",.d (.str z))]
 | .many n=>[("most",.d (.int (n:Nat)))]
 | .used z=>[("name",.d (.str z))]
def need:De->Option (Sn×Str)
 | .row .g _=>none
 | .row .s r=>some (.w,r.v)
 | .row .o r=>some (.w,r.v)
 | .row .u r=>some (.r .o,r.v)
 | .fq _ _ _ _ _ _=>none
 | .fin n z=>some (n,z)
def adL:De->Option (Sn×Str)
 | .row t r=>some (.r t,r.z)
 | .fq z _ _ _ _ _=>some (.w,z)
 | .fin _ _=>none
def most:Sn->Nat
 | .m=>0
 | .w=>8
 | .r .g=>4
 | .r .s=>4
 | .r .o=>6
 | .r .u=>4
def us:Sn->List Sr
 | .w=>[.s,.o]
 | .r .o=>[.u]
 | _=>[]
def o1(D:De)(S:Bs):Option Out:=match need D with
 | none=>none
 | some (n,z)=>if z∈nms S n then none else some (.unknown z)
def o2(D:De)(S:Bs):Option Out:=match adL D with
 | none=>none
 | some (n,z)=>if z∈nms S n\/(n=.w/\z∈S.es) then some (.known z) else none
def o3(D:De)(S:Bs):Option Out:=match adL D with
 | none=>none
 | some (n,_)=>if most n<=(nms S n).length then some (.many (most n)) else none
def usr(S:Bs):De->List Rw
 | .fin n z=>((us n).flatMap S.R).filter λ r=>decide (r.v=z)
 | _=>[]
def o4(D:De)(S:Bs):Option Out:=(usr S D).head?.map λ r=>.used r.z
def Dv:De->Prop
 | .row t r=>t=.g\/r.w=.str r.v
 | .fq _ _ _ _ _ _=>True
 | .fin n _=>n=.w\/n=.r .s\/n=.r .o\/n=.r .u
structure Rl(S:Bs):Prop where
 l:∀ t,(S.R t).length<=900
 v:∀ t,t ≠ .g->∀ r∈S.R t,r.w=.str r.v
inductive SpO(o:De->Bs->Option Out) (ws:List W) (M:MH) (Q:QD) (E:XQ):Prop
 | mk (ρ:Rm) (A:Ads) (S:Bs) (D:De) (z0:ws=[.m A.b,.d (deD D)]) (B:Bk M ρ A S) (hl:Rl S) (hv:Dv D) (q:o D S=none->∀ M',Ext M M'->Q (.d .none) M') (x:∀ u,o D S=some u->∀ a M',Ext M M'->M' a=some (.exc (xC u) (xF u))->E a M'):SpO o ws M Q E
theorem SpO.len{o:De->Bs->Option Out}:∀ ws M Q E,SpO o ws M Q E->ws.length=2:=by rintro ws M Q E ⟨ρ,A,S,D,rfl,_⟩;rfl
theorem nF{M0 M:MH}{E:XQ}{C:Addr}{fs:List (Str×W)}(x:Ext M0 M)(k:∀ a M',Ext M0 M'->M' a=some (.exc C fs)->E a M'):∀ a,M a=none->E a (bC M a (.exc C fs)):=λ a ha=>k a _ (x.trans (Ext.new ha)) ao
def aU:SpX:=SpO o1
theorem hB:LnX aU 2:=SpO.len
theorem mE{M:MH}{Q:QD}{E:XQ}{ρ:Rm}{A:Ads}{S:Bs}{n:Sn}{z:Str}{τ:DS}(B:Bk M ρ A S)(hl:Rl S)(h0:τ[0]? =some (some (.m A.b)))(h2:τ[2]? =some (some (.d (.str n.nm))))(h3:τ[3]? =some (some (.d (.str z))))(q:z∈nms S n->∀ M',Ext M M'->Q (.d .none) M')(x:z ∉ nms S n->∀ a M',Ext M M'->M' a=some (.exc aw [("name",.d (.str z))])->E a M') :
  (dIf (aJ (dOp (mj true) (aj 3) (gG aq "names_of" aE (aj 0) (ah (aj 2) aI))))
   (iE aw ["name"] (λ a _ M=>E a M) (ah (aj 3) aI))
   bx) (EdQ Q) τ M:=by
 refine⟨_,h3,_,h0,A.b,_,rfl,B.hb,rfl,_,h2,.mk ρ A S n rfl B hl.l λ w M' xt sq _ _=>⟨z,nms S n,rfl,sq,_,rfl,?_⟩⟩
 by_cases h:z∈nms S n
 ·exact a9 (by rw[decide_eq_true h];rfl) (q h M' xt)
 ·exact bW (by rw[decide_eq_false h];rfl) ⟨_,h3,rfl,by simp,nF xt (x h)⟩
theorem zR{D:De}{S:Bs}{n:Sn}{z:Str}(h:need D=some (n,z)):(z∈nms S n->o1 D S=none)/\(z ∉ nms S n->o1 D S=some (.unknown z)):=by
 unfold o1;rw[h];exact⟨λ h=>if_pos h,λ h=>if_neg h⟩
theorem gp{M:MH}(D:De):ixW M (.d (deD D)) 0=some (.d (.str D.nm)):=ake
theorem gC:RdX aU (λ Ex=>eX Ex aE) ff:=by
 rintro ws M Q E ⟨ρ,A,S,D,rfl,B,hl,hv,q,x⟩;cases D with
 | fq z kd c p s h=>exact⟨_,rfl,_,_,rfl,gp _,rfl,_,_,.d,.d,rfl,_,rfl,a9 (neS (by simp only[De.nm,Sr.nm];decide +kernel)) ⟨_,rfl,_,_,rfl,gp _,rfl,_,rfl,_,rfl,a9 (by simp only[De.nm,Sr.nm];decide +kernel) (q rfl M (Ext.refl M))⟩⟩
 | fin n z =>
  obtain⟨u1,u2⟩:=zR (D:=.fin n z) (S:=S) rfl;exact⟨_,rfl,_,_,rfl,gp _,rfl,_,_,.d,.d,rfl,_,rfl,bW (eqS _) ⟨_,rfl,_,rfl,_,rfl,rfl,_,rfl,rfl,_,_,rfl,_,_,rfl,rfl,mE B hl rfl rfl rfl (λ h=>q (u1 h)) (λ h=>x _ (u2 h))⟩⟩
 | row t r =>
  cases t with
  | g=>exact⟨_,rfl,_,_,rfl,gp _,rfl,_,_,.d,.d,rfl,_,rfl,a9 (neS (by simp only[De.nm,Sr.nm];decide +kernel)) ⟨_,rfl,_,_,rfl,gp _,rfl,_,rfl,_,rfl,a9 (by simp only[De.nm,Sr.nm];decide +kernel) (q rfl M (Ext.refl M))⟩⟩
  | s =>
   obtain⟨u1,u2⟩:=zR (D:=.row .s r) (S:=S) rfl;have hw:r.w=.str r.v:=hv.resolve_left nofun;exact⟨_,rfl,_,_,rfl,gp _,rfl,_,_,.d,.d,rfl,_,rfl,a9 (neS (by simp only[De.nm,Sr.nm];decide +kernel)) ⟨_,rfl,_,_,rfl,gp _,rfl,_,rfl,_,rfl,bW (by simp only[De.nm,Sr.nm];decide +kernel) ⟨_,rfl,_,_,rfl,gp _,rfl, "store",_,rfl,rfl,_,rfl,rfl,_,_,rfl,_,_,rfl,rfl,_,rfl,_,rfl,_,_,rfl,dN (j:=2) (d:=.str r.v) (by rw[<- hw];rfl),rfl,mE (n:=.w) B hl rfl rfl rfl (λ h=>q (u1 h)) (λ h=>x _ (u2 h))⟩⟩⟩
  | o =>
   obtain⟨u1,u2⟩:=zR (D:=.row .o r) (S:=S) rfl;have hw:r.w=.str r.v:=hv.resolve_left nofun;exact⟨_,rfl,_,_,rfl,gp _,rfl,_,_,.d,.d,rfl,_,rfl,a9 (neS (by simp only[De.nm,Sr.nm];decide +kernel)) ⟨_,rfl,_,_,rfl,gp _,rfl,_,rfl,_,rfl,bW (by simp only[De.nm,Sr.nm];decide +kernel) ⟨_,rfl,_,_,rfl,gp _,rfl, "door",_,rfl,rfl,_,rfl,rfl,_,_,rfl,_,_,rfl,rfl,_,rfl,_,rfl,_,_,rfl,dN (j:=2) (d:=.str r.v) (by rw[<- hw];rfl),rfl,mE (n:=.w) B hl rfl rfl rfl (λ h=>q (u1 h)) (λ h=>x _ (u2 h))⟩⟩⟩
  | u =>
   obtain⟨u1,u2⟩:=zR (D:=.row .u r) (S:=S) rfl;have hw:r.w=.str r.v:=hv.resolve_left nofun;exact⟨_,rfl,_,_,rfl,gp _,rfl,_,_,.d,.d,rfl,_,rfl,a9 (neS (by simp only[De.nm,Sr.nm];decide +kernel)) ⟨_,rfl,_,_,rfl,gp _,rfl,_,rfl,_,rfl,bW (by simp only[De.nm,Sr.nm];decide +kernel) ⟨_,rfl,_,_,rfl,gp _,rfl, "rule",_,rfl,rfl,_,rfl,rfl,_,_,rfl,_,_,rfl,rfl,_,rfl,_,rfl,_,_,rfl,dN (j:=2) (d:=.str r.v) (by rw[<- hw];rfl),rfl,mE (n:=.r .o) B hl rfl rfl rfl (λ h=>q (u1 h)) (λ h=>x _ (u2 h))⟩⟩⟩
def bo:SpX:=SpO o2
theorem iB:LnX bo 2:=SpO.len
theorem afY{D:De}{n:Sn}{z:Str}(h:adL D=some (n,z)):D.nm=n.nm/\D.as[0]? =some (.str z)/\(n=.w\/∃ t,n=.r t):=by
 cases D with
 | row t r=>cases h;exact⟨rfl,rfl,.inr ⟨_,rfl⟩⟩
 | fq z kd c p s h'=>cases h;exact⟨rfl,rfl,.inl rfl⟩
 | fin n z=>cases h
theorem abU{n:Sn}(h:n=.w\/∃ t,n=.r t):(gF jR n.nm).isSome=true/\gF jR n.nm=some (.int (most n:Nat))/\n.nm ≠ "edition":= by
 rcases h with rfl | ⟨t,rfl⟩
 ·exact⟨rfl,rfl,by decide +kernel⟩
 ·cases t<;>exact⟨rfl,rfl,by decide +kernel⟩
theorem zI{M:MH}{D:De}{d:PyData}(h:D.as[0]? =some d):ixW M (.d (deD D)) 1=some (.d d):=dN (j:=1) (by simpa using h)
theorem ir:RdX bo (λ Ex=>fH Ex aE) fF:=by
 rintro ws M Q E ⟨ρ,A,S,D,rfl,B,hl,hv,q,x⟩;cases hm:adL D with
 | none =>
  cases D with
  | fin n z=>exact⟨_,rfl,_,_,rfl,gp _,rfl,_,rfl,_,_,rfl,zI rfl,rfl,_,_,rfl,_,rfl,_,rfl,_,rfl,a9 (by simp only[De.nm,Sr.nm];decide +kernel) (fh ⟨_,rfl,_,_,.d,.d,rfl,_,rfl,a9 (neS (by simp only[De.nm,Sr.nm];decide +kernel)) (fh (q rfl M (Ext.refl M)))⟩)⟩
  | _=>cases hm
 | some nz =>
  obtain⟨n,z⟩:=nz;obtain⟨e1,e2,hn⟩:=afY hm;have q':¬ (z∈nms S n\/(n=.w/\z∈S.es))->o2 D S=none:=λ h=>by unfold o2;rw[hm];exact if_neg h
  have x':(z∈nms S n\/(n=.w/\z∈S.es))->o2 D S=some (.known z):=λ h=>by unfold o2;rw[hm];exact if_pos h
  have i0:∀ {M:MH},ixW M (.d (deD D)) 0=some (.d (.str n.nm)):=λ {M}=>by rw[<- e1];exact gp D
  refine⟨_,rfl,_,_,rfl,i0,rfl,_,rfl,_,_,rfl,zI e2,rfl,_,_,rfl,_,rfl,_,rfl,_,rfl,bW (abU hn).1 ⟨_,rfl,_,rfl,A.b,_,rfl,B.hb,rfl,_,rfl,.mk ρ A S n rfl B hl.l λ w M' xt sq _ _=>⟨z,nms S n,rfl,sq,_,rfl,?_⟩⟩⟩
  by_cases h1:z∈nms S n
  ·exact bW (decide_eq_true h1) ⟨_,rfl,rfl,by simp,nF xt (x _ (x' (.inl h1)))⟩
  ·refine a9 (decide_eq_false h1) ⟨_,rfl,_,_,.d,.d,rfl,_,rfl,?_⟩;have B':=B.ext xt;rcases hn with rfl | ⟨t,rfl⟩
   ·refine bW (eqS _) ⟨_,rfl,_,rfl,A.b,_,_,rfl,B'.hb,rfl,z,S.es,rfl,.m (B'.c .e).1,_,rfl,?_⟩
    by_cases h2:z∈S.es
    ·exact bW (decide_eq_true h2) ⟨_,rfl,rfl,by simp,nF xt (x _ (x' (.inr ⟨rfl,h2⟩)))⟩
    ·exact a9 (decide_eq_false h2) (q (q' λ h=>h.elim h1 λ h=>h2 h.2) M' xt)
   ·exact a9 (neS (sk t).2.1) (fh (q (q' λ h=>h.elim h1 λ h=>nomatch h.1) M' xt))
def aS:SpX:=SpO o3
theorem gK:LnX aS 2:=SpO.len
theorem gw:RdX aS (λ Ex=>eJ Ex aE) eD:=by
 rintro ws M Q E ⟨ρ,A,S,D,rfl,B,hl,hv,q,x⟩;cases hm:adL D with
 | none =>
  cases D with
  | fin n z=>exact⟨_,rfl,_,_,rfl,gp _,rfl,_,rfl,_,rfl,_,rfl,a9 (by simp only[De.nm,Sr.nm];decide +kernel) (fh ⟨_,rfl,_,_,.d,.d,rfl,_,rfl,a9 (neS (by simp only[De.nm,Sr.nm];decide +kernel)) (fh (q rfl M (Ext.refl M)))⟩)⟩
  | _=>cases hm
 | some nz =>
  obtain⟨n,z⟩:=nz;obtain⟨e1,e2,hn⟩:=afY hm;have q':¬ most n<=(nms S n).length->o3 D S=none:=λ h=>by unfold o3;rw[hm];exact if_neg h
  have x':most n<=(nms S n).length->o3 D S=some (.many (most n)):=λ h=>by unfold o3;rw[hm];exact if_pos h
  have i0:∀ {M:MH},ixW M (.d (deD D)) 0=some (.d (.str n.nm)):=λ {M}=>by rw[<- e1];exact gp D
  obtain⟨m1,m2,m3⟩:=abU hn;refine⟨_,rfl,_,_,rfl,i0,rfl,_,rfl,_,rfl,_,rfl,bW m1 ⟨_,rfl,A.b,_,rfl,B.hb,rfl,_,rfl,.mk ρ A S n rfl B hl.l λ w M' xt sq ln ft=>⟨_,_,rfl,ln,ft,_,rfl,n.nm,.int (most n:Nat),rfl,m2,_,_,rfl,rfl,_,rfl,?_⟩⟩⟩
  by_cases h:most n<=(nms S n).length
  ·exact bW (decide_eq_true (by omega)) ⟨_,rfl,n.nm,.int (most n:Nat),rfl,m2,rfl,by simp,nF xt (x _ (x' h))⟩
  ·exact a9 (decide_eq_false (by omega)) ⟨_,rfl,_,_,.d,.d,rfl,_,rfl,a9 (neS m3) (fh (q (q' h) M' xt))⟩
def aV:SpX:=SpO λ _ _=>none
theorem gL:LnX aV 2:=SpO.len
theorem akF(D:De):D.nm ≠ "back":= by
 cases D with
 | row t r=>exact(sk t).2.2.2.2.1
 | fq=>simp only[De.nm];decide +kernel
 | fin=>simp only[De.nm];decide +kernel
theorem gD:RdX aV e9 eZ:=by
 rintro ws M Q E ⟨ρ,A,S,D,rfl,B,hl,hv,q,x⟩;exact⟨_,rfl,_,_,rfl,gp _,rfl,_,_,.d,.d,rfl,_,rfl,a9 (neS (akF D)) (fh (q rfl M (Ext.refl M)))⟩
theorem aaU{p:Rw->Bool}:∀ {l:List Rw} {i:Nat} {r:Rw},l[i]? =some r->(∀ j<i,∀ r',l[j]? =some r'->p r'=false)->p r=true->(l.filter p).head? =some r
 | [],i,r,h,_,_=>by simp at h
 | y::l,0,r,h,_,hp=>by cases h;rw[List.filter_cons_of_pos hp];rfl
 | y::l,i+1,r,h,hn,hp=>by have hy:p y=false:=hn 0 (by omega) y rfl;rw[List.filter_cons_of_neg (by rw[hy];simp)];exact aaU (i:=i) (by simpa using h) (λ j hj r' hr=>hn (j+1) (by omega) r' (by simpa using hr)) hp
theorem abN{R:Sr->List Rw}{p:Rw->Bool}:∀ {l:List Sr} {i i2:Nat} {t:Sr} {r:Rw},l[i]? =some t->(∀ j<i,∀ t',l[j]? =some t'->∀ r'∈R t',p r'=false)->(R t)[i2]? =some r->(∀ j<i2,∀ r',(R t)[j]? =some r'->p r'=false)->p r=true->((l.flatMap R).filter p).head? =some r
 | [],i,_,t,r,h,_,_,_,_=>by simp at h
 | y::l,0,i2,t,r,h,_,h3,h4,hp=>by
  cases h;rw[List.flatMap_cons,List.filter_append,List.head?_append,aaU h3 h4 hp];rfl
 | y::l,i+1,i2,t,r,h,hn,h3,h4,hp=>by rw[List.flatMap_cons,List.filter_append,List.filter_eq_nil_iff.mpr (λ r' hr=>by rw[hn 0 (by omega) y rfl r' hr];simp),List.nil_append];exact abN (i:=i) (by simpa using h) (λ j hj t' ht=>hn (j+1) (by omega) t' (by simpa using ht)) h3 h4 hp
theorem ag7{n:Sn}(h:n=.w\/n=.r .s\/n=.r .o\/n=.r .u):gF oK n.nm=some (.tuple ((us n).map λ t=>.str t.nm)):=by
 rcases h with rfl | rfl | rfl | rfl<;>rfl
theorem aml{n:Sn}{t:Sr}(h:t∈us n):t ≠ .g:=by
 intro e;subst e;cases n with
 | m=>simp[us] at h
 | w=>simp[us] at h
 | r t=>cases t<;>simp[us] at h
theorem aa9{M:MH}{a p:Addr}{o1 o o2:MO}(h:M a=some o2)(n:p≠a):bC (bC (bC M a o1) p o) a o2=bC M p o:=by
 funext q
 by_cases e:q=a
 ·subst e;rw[ao,ar (Ne.symm n)];exact h.symm
 ·by_cases e2:q=p
  ·subst e2;rw[ar e,ao,ao]
  ·rw[ar e,ar e2,ar e,ar e2]
def bq:SpX:=SpO o4
theorem jc:LnX bq 2:=SpO.len
theorem rw_at{rs:List Rw}{i:Nat}{w:W}(h:((rwD rs).map W.d)[i]? =some w):∃ r,rs[i]? =some r/\w=.d (.tuple r.ds):=by rw[List.getElem?_map,List.getElem?_map] at h;obtain⟨d,hd,rfl⟩:=Option.map_eq_some_iff.mp h;obtain⟨r,hr,rfl⟩:=Option.map_eq_some_iff.mp hd;exact⟨r,hr,rfl⟩
theorem iH:RdX bq gm f9:=by
 rintro ws M Q E ⟨ρ,A,S,D,rfl,B,hl,hv,q,x⟩;cases D with
 | fq z kd c p s h=>exact⟨_,rfl,_,_,rfl,gp _,rfl,_,_,.d,.d,rfl,_,rfl,bW (by rw[neS (by simp only[De.nm];decide +kernel)];rfl) (q rfl M (Ext.refl M))⟩
 | row t r=>exact⟨_,rfl,_,_,rfl,gp _,rfl,_,_,.d,.d,rfl,_,rfl,bW (by rw[neS (show(De.row t r).nm ≠ "end" from(sk t).2.2.1)];rfl) (q rfl M (Ext.refl M))⟩
 | fin n z =>
  refine⟨_,rfl,_,_,rfl,gp _,rfl,_,_,.d,.d,rfl,_,rfl,a9 (by rw[show(De.fin n z).nm = "end" from rfl,eqS];rfl) ?_⟩;refine⟨_,rfl,_,_,rfl,zI rfl,rfl,n.nm,_,rfl,ag7 hv,_,rfl,λ i τ M'=>M'=M/\(∀ j<i,∀ t,(us n)[j]? =some t->∀ r∈S.R t,decide (r.v=z)=false)/\∃ x2 x3,τ=[some (.m A.b),some (.d (deD (.fin n z))),x2,x3],⟨rfl,λ j hj=>absurd hj (Nat.not_lt_zero j),_,_,rfl⟩,?_,?_⟩
  ·rintro i w τ M' hw ⟨rfl,hno,x2,x3,rfl⟩;rw[List.getElem?_map,List.getElem?_map] at hw;obtain⟨d,hd,rfl⟩:=Option.map_eq_some_iff.mp hw;obtain⟨t,ht,rfl⟩:=Option.map_eq_some_iff.mp hd;have tg:=aml (List.mem_of_getElem? ht);have hx:=B.c (.x t);have nb:A.b≠S.x t:=cne (B.c .b).2 hx.2 nofun;have nt:A.t≠S.x t:=cne (B.c .t).2 hx.2 nofun;refine⟨S.x t,_,hx.1,_,rfl,A.b,_,_,rfl,(by rw[ar nb];exact B.hb),rfl,_,rfl,A.t,_,.inr t.nm,_,rfl,.inl (by rw[ar nt];exact(B.c .t).1),rfl,jM _ _,S.x t,_,rfl,ao,λ i2 τ M2=>M2=bC M' (S.x t) (.flst ((rwD (S.R t)).map W.d))/\(∀ j<i2,∀ r,(S.R t)[j]? =some r->decide (r.v=z)=false)/\∃ x3,τ=[some (.m A.b),some (.d (deD (.fin n z))),some (.d (.str t.nm)),x3],⟨rfl,λ j hj=>absurd hj (Nat.not_lt_zero j),_,rfl⟩,?_,?_⟩
   ·rintro i2 w τ M2 hw ⟨rfl,hn2,x3,rfl⟩;obtain⟨r,hr,rfl⟩:=rw_at hw;have hv:=hl.v t tg r (List.mem_of_getElem? hr);refine⟨_,rfl,_,_,rfl,(show ixW _ _ 1=some (.d (.str r.v)) by rw[<- hv];exact amc r),rfl,_,rfl,_,_,rfl,dN (j:=2) rfl,rfl,_,_,.d,.d,rfl,_,rfl,?_⟩;rw[cT]
    by_cases e:r.v=z
    ·refine bW (decide_eq_true e) ⟨_,rfl,_,_,rfl,ahl r,rfl,rfl,by simp,λ a ha=>?_⟩;have na:S.x t≠a:=aT ao ha;have ha0:M' a=none:=by rw[ar na.symm] at ha;exact ha
     refine⟨by rw[ar na];exact ao,x (.used r.z) ?_ a _ (λ q o eq=>?_) (by rw[ar na.symm];exact ao)⟩
     ·show((((us n).flatMap S.R).filter λ r=>decide (r.v=z)).head?.map λ r=>Out.used r.z)=_;rw[abN ht hno hr hn2 (decide_eq_true e)];rfl
     ·rw[aa9 hx.1 na.symm,ar (aT eq ha0)];exact eq
    ·refine a9 (decide_eq_false e) ⟨rfl,λ j hj r' hr'=>?_,_,rfl⟩
     by_cases ej:j=i2
     ·subst ej;rw[hr] at hr';cases hr';exact decide_eq_false e
     ·exact hn2 j (by omega) r' hr'
   ·rintro τ M2 ⟨rfl,hn2,x3,rfl⟩;refine⟨ao,?_⟩;rw[fQ,aac hx.1];refine⟨rfl,λ j hj t' ht' r hr=>?_,_,_,rfl⟩
    by_cases ej:j=i
    ·subst ej;rw[ht] at ht';cases ht';obtain⟨k,hk⟩:=List.mem_iff_getElem?.mp hr;exact hn2 k (by have:=(List.getElem?_eq_some_iff.mp hk).1;simpa using this) r hk
    ·exact hno j (by omega) t' ht' r hr
  ·rintro τ M' ⟨rfl,hno,x2,x3,rfl⟩;refine q ?_ M' (Ext.refl M');show((((us n).flatMap S.R).filter λ r=>decide (r.v=z)).head?.map λ r=>Out.used r.z)=_;rw[List.filter_eq_nil_iff.mpr]
   ·rfl
   ·intro r hr;obtain⟨t,ht,hr⟩:=List.mem_flatMap.mp hr;obtain⟨k,hk⟩:=List.mem_iff_getElem?.mp ht;rw[hno k (by have:=(List.getElem?_eq_some_iff.mp hk).1;simpa using this) t hk r hr];simp
theorem uw(z:Str)(ds:List PyData):slW (.d (dd z ds)) (some 1) none=some (.d (.tuple ds)):=by
 have e1:HT.sIx (ds.length+1) 0 (some 1)=1:=by
  simp only[HT.sIx]
  split<;>omega
 have e2:HT.sIx (ds.length+1) (ds.length+1) none=ds.length+1:=rfl;simp only[slW,dd,yw,D.cutD,List.length_cons,e1,e2];simp
inductive nk(ws:List W) (M:MH) (Q:QD):Prop
 | mk (ρ:Rm) (A:Ads) (S:Bs) (t:Sr) (r:Rw) (z0:ws=[.m A.b,.d (deD (.row t r))]) (B:Bk M ρ A S) (hl:(S.R t).length<=900) (q:∀ M',Bk M' ρ A {S with R:=upR S.R t (S.R t++[r])}->Fr2 M ρ M' ρ->Q (.d .none) M'):nk ws M Q
def cS:SpD:=nk
theorem u7:Ln cS 2:=by rintro ws M Q ⟨ρ,A,S,t,r,rfl,_⟩;rfl
theorem rR:Rd cS qR qo:=by
 rintro ws M Q ⟨ρ,A,S,t,r,rfl,B,hl,k⟩;have sl:=s16;have hx:=B.c (.x t);refine⟨_,rfl,A.b,_,_,rfl,B.hb,rfl,_,rfl,_,_,rfl,gp _,rfl,A.t,_,.inr t.nm,_,rfl,.inl (B.c .t).1,rfl,jM _ _,S.x t,_,rfl,hx.1,_,rfl,_,rfl,_,uw _ _,rfl,_,hx.1,(by simp only[lm];omega),?_⟩;rw[show(rwD (S.R t)).map W.d++[W.d (.tuple (De.row t r).as)]=(rwD (S.R t++[r])).map W.d by simp[De.as]];exact k _ (B.amw t (S.R t++[r])) (Fr2.upd hx.2)
inductive lR(ws:List W) (M:MH) (Q:QD):Prop
 | mk (ρ:Rm) (A:Ads) (S:Bs) (z kd:Str) (c p s h:Int) (z0:ws=[.m A.b,.d (deD (.fq z kd c p s h))]) (B:Bk M ρ A S) (hz:z ∉ S.T.map (·.1)) (h8:S.rs.length<=100) (hT:S.T.length<=1000) (q:∀ ρ' a l M',Bk M' ρ' A {S with rs:=S.rs++[z],T:=S.T++[(z,⟨.str kd,.int c,.int p,.int 1,[.tuple [.int s,.int h]],a,l⟩)]}->Fr2 M ρ M' ρ'->Q (.d .none) M'):lR ws M Q
def cz:SpD:=lR
theorem sx:Ln cz 2:=by rintro ws M Q ⟨ρ,A,S,z,kd,c,p,s,h,rfl,_⟩;rfl
theorem rm(zs:List Str)(z:Str):cV zs++[.d (.str z)]=cV (zs++[z]):=by simp[cV]
theorem pI:Rd cz oP oU:=by
 rintro ws M Q ⟨ρ,A,S,z,kd,c,p,s,h,rfl,B,hz,h8,hT,k⟩;have sl:=s16;refine⟨_,rfl,_,rfl,_,uw _ _,rfl,_,rfl,rfl,_,_,rfl,_,_,rfl,_,_,rfl,_,_,rfl,_,_,rfl,_,_,rfl,rfl,?_⟩;refine⟨_,rfl,A.b,_,_,rfl,B.hb,rfl,A.r,_,rfl,(B.c .r).1,_,rfl,_,(B.c .r).1,(by simp only[cV,lm];omega),?_⟩;rw[rm];have B1:=B.alS (S.rs++[z]);have f1:Fr2 M ρ (bC M A.r (.lst (cV (S.rs++[z])))) ρ:=Fr2.upd (B.c .r).2;generalize bC M A.r (.lst (cV (S.rs++[z])))=M1 at B1 f1;intro a ha;refine⟨_,rfl,_,rfl,_,rfl,_,rfl,_,rfl,_,rfl,few (by simp),few (by simp),λ l hl=>⟨?_,wk ⟨.str kd,.int c,.int p,.int 1,[.tuple [.int s,.int h]],a,l⟩,rfl,(by show 5<=15;decide),(by show([.inr "kind",.inr "copies",.inr "keep",.inr "edition",.inr "editions"]:List Key).Nodup;decide +kernel),?_⟩⟩
 ·exact iN ao hl
 have al:a≠l:=aT ao hl;have hl1:M1 l=none:=by rw[ar (Ne.symm al)] at hl;exact hl
 have hw1:=(B1.c .w).1;have wa:A.w≠a:=aT hw1 ha;have wl:A.w≠l:=aT hw1 hl1;have ba:A.b≠a:=aT B1.hb ha;have bl:A.b≠l:=aT B1.hb hl1;refine⟨_,rfl,A.b,_,_,rfl,(by rw[ar ba,ar bl,ar ba];exact B1.hb),rfl,_,rfl,A.w,_,.inr z,rfl,(by rw[ar wa,ar wl,ar wa];exact hw1),rfl,(by simp only[kvT,lm];omega),?_⟩;refine k _ a l _ (B1.akD (y:=⟨.str kd,.int c,.int p,.int 1,[.tuple [.int s,.int h]],a,l⟩) hz ha hl1 al (λ q o n e=>?_) ?_ ?_ ?_) (f1.trans λ q o e n=>⟨?_,?_⟩)
 ·rw[ar n,ar (aT e ha),ar (aT e hl1),ar (aT e ha)];exact e
 ·rw[ao,<- aaa hz]
 ·show bC _ A.w _ a=_;rw[ar (Ne.symm wa),ao]
 ·show bC _ A.w _ l=_;rw[ar (Ne.symm wl),ar (Ne.symm al),ao];rfl
 ·rw[ar (cno n (B1.c .w).2),ar (aT e ha),ar (aT e hl1),ar (aT e ha)];exact e
 ·show(if q=a then _ else if q=l then _ else _)=_;rw[if_neg (aT e ha),if_neg (aT e hl1)];exact n
def kpR(z:Str)(rs:List Rw):List Rw:=rs.filter λ r=>decide (r.z≠z)
inductive lh(ws:List W) (M:MH) (Q:QD):Prop
 | w (ρ:Rm) (A:Ads) (S:Bs) (x:Str×Wi) (z0:ws=[.m A.b,.d (deD (.fin .w x.1))]) (B:Bk M ρ A S) (hz:x.1∈S.rs) (hx:x∈S.T) (he:S.es.length<=1000) (q:∀ M',Bk M' ρ A {S with rs:=S.rs.erase x.1,es:=S.es++[x.1],T:=S.T.filter (λ u=>decide (u.1≠x.1))}->Fr2 M ρ M' ρ->Q (.d .none) M'):lh ws M Q
 | r (ρ:Rm) (A:Ads) (S:Bs) (t:Sr) (z:Str) (z0:ws=[.m A.b,.d (deD (.fin (.r t) z))]) (B:Bk M ρ A S) (hl:(S.R t).length<=900) (q:∀ ρ' p M',Bk M' ρ' A {S with R:=upR S.R t (kpR z (S.R t)),x:=upR S.x t p}->Fr2 M ρ M' ρ'->Q (.d .none) M'):lh ws M Q
def cY:SpD:=lh
theorem vZ:Ln cY 2:=by rintro ws M Q (⟨ρ,A,S,x,rfl,_⟩ | ⟨ρ,A,S,t,z,rfl,_⟩)<;>rfl
def kpW(z:Str):W->Option PyData
 | .d (.tuple (.str y::ds))=>if y=z then none else some (.tuple (.str y::ds))
 | _=>none
theorem aeX(z:Str)(rs:List Rw):((rwD rs).map W.d).filterMap (kpW z)=rwD (kpR z rs):=by
 induction rs with
 | nil=>rfl
 | cons r rs ih =>
  show((W.d (.tuple r.ds))::(rwD rs).map W.d).filterMap (kpW z)=rwD (kpR z (r::rs))
  by_cases h:r.z=z
  ·rw[List.filterMap_cons_none (show kpW z (.d (.tuple r.ds))=none from if_pos h),ih];unfold kpR;rw[List.filter_cons_of_neg (by simp[h])]
  ·rw[List.filterMap_cons_some (show kpW z (.d (.tuple r.ds))=some (.tuple r.ds) from if_neg h),ih];unfold kpR;rw[List.filter_cons_of_pos (by simp[h])];rfl
theorem vi:Rd cY uM tX:=by
 have sl:=s16;rintro ws M Q (⟨ρ,A,S,x,rfl,B,hz,hx,he,k⟩ | ⟨ρ,A,S,t,z,rfl,B,hl,k⟩)
 ·refine⟨_,rfl,_,rfl,_,uw _ _,rfl,_,rfl,rfl,_,_,rfl,_,_,rfl,rfl,_,rfl,_,_,.d,.d,rfl,_,rfl,bW (eqS _) ?_⟩;refine⟨_,rfl,A.b,_,_,rfl,B.hb,rfl,A.r,_,rfl,(B.c .r).1,_,rfl,x.1,S.rs,rfl,(B.c .r).1,hz,?_⟩;have B1:=B.alS (S.rs.erase x.1);have f1:Fr2 M ρ (bC M A.r (.lst (cV (S.rs.erase x.1)))) ρ:=Fr2.upd (B.c .r).2;generalize bC M A.r (.lst (cV (S.rs.erase x.1)))=M1 at B1 f1;refine⟨_,rfl,A.b,_,_,rfl,B1.hb,rfl,_,rfl,A.w,_,.inr x.1,rfl,(B1.c .w).1,rfl,(by rw[nG B.tn hx];rfl),?_⟩;rw[ad3];have B2:=B1.amj (T:=S.T.filter λ u=>decide (u.1≠x.1)) List.filter_sublist;have f2:Fr2 M1 ρ (bC M1 A.w (.dic (kvT (S.T.filter λ u=>decide (u.1≠x.1))))) ρ:=Fr2.upd (B.c .w).2;generalize bC M1 A.w (.dic (kvT (S.T.filter λ u=>decide (u.1≠x.1))))=M2 at B2 f2;refine⟨_,rfl,A.b,_,_,rfl,B2.hb,rfl,A.e,_,rfl,(B2.c .e).1,_,rfl,_,(B2.c .e).1,(by simp only[cV,lm];omega),?_⟩;rw[rm];exact k _ (B2.amB (S.es++[x.1])) (f1.trans (f2.trans (Fr2.upd (B.c .e).2)))
 ·have hx:=B.c (.x t);have nb:A.b≠S.x t:=cne (B.c .b).2 hx.2 nofun;have nt:A.t≠S.x t:=cne (B.c .t).2 hx.2 nofun;refine⟨_,rfl,_,rfl,_,uw _ _,rfl,_,rfl,rfl,_,_,rfl,_,_,rfl,rfl,_,rfl,_,_,.d,.d,rfl,_,rfl,a9 (neS (sk t).2.1) ?_⟩;refine⟨S.x t,_,hx.1,_,rfl,A.b,_,_,rfl,(by rw[ar nb];exact B.hb),rfl,_,rfl,A.t,_,.inr t.nm,_,rfl,.inl (by rw[ar nt];exact(B.c .t).1),rfl,jM _ _,S.x t,_,rfl,ao,?_⟩;refine nR (kpW z) (by simp only[lm];omega) (λ w hw P' hP=>?_) ?_
  ·obtain⟨i,hi⟩:=List.mem_iff_getElem?.mp hw;obtain⟨r,hr,rfl⟩:=rw_at hi;refine⟨_,rfl,_,_,rfl,ahl r,rfl,_,rfl,_,_,.d,.d,rfl,_,rfl,?_⟩;rw[cT]
   by_cases h:r.z=z
   ·rw[show kpW z (.d (.tuple r.ds))=none from if_pos h] at hP;exact a9 (by rw[decide_eq_true h];rfl) ⟨rfl,hP⟩
   ·rw[show kpW z (.d (.tuple r.ds))=some (.tuple r.ds) from if_neg h] at hP;exact bW (by rw[decide_eq_false h];rfl) ⟨_,rfl,_,rfl,rfl,hP⟩
  ·intro p hp;have np:S.x t≠p:=aT ao hp;have hp0:M p=none:=by rw[ar np.symm] at hp;exact hp
   rw[aeX];refine⟨by rw[ar np];exact ao,?_⟩;rw[aa9 hx.1 np.symm];refine⟨_,rfl,A.b,_,_,rfl,(by rw[ar (aT B.hb hp0)];exact B.hb),rfl,_,rfl,A.t,_,.inr t.nm,rfl,(by rw[ar (aT (B.c .t).1 hp0)];exact(B.c .t).1),rfl,(by show 4<sizeLine;omega),?_⟩;rw[show(Sn.r t).nm=t.nm from rfl,aaI];refine k _ p _ (B.newX t (kpR z (S.R t)) hp0) λ c o e n=>⟨?_,?_⟩
   ·rw[ar (cno n (B.c .t).2),ar (aT e hp0)];exact e
   ·show(if c=p then _ else if c=S.x t then none else ρ c)=none;rw[if_neg (aT e hp0)]
    split
    ·rfl
    ·exact n
def out(D:De)(S:Bs):Option Out:=(o1 D S).or ((o2 D S).or ((o3 D S).or (o4 D S)))
abbrev lgD(y:Str)(D:De):PyData:=.tuple [.str y,deD D]
inductive Stp(y:Str) (S:Bs):De->Bs->Prop
 | row (t:Sr) (r:Rw):Stp y S (.row t r) {S with R:=upR S.R t (S.R t++[r]),dn:=S.dn++[lgD y (.row t r)]}
 | fq (z kd:Str) (c p s h:Int) (a l:Addr):Stp y S (.fq z kd c p s h) {S with rs:=S.rs++[z],T:=S.T++[(z,⟨.str kd,.int c,.int p,.int 1,[.tuple [.int s,.int h]],a,l⟩)],dn:=S.dn++[lgD y (.fq z kd c p s h)]}
 | finW (z:Str):Stp y S (.fin .w z) {S with rs:=S.rs.erase z,es:=S.es++[z],T:=S.T.filter (λ u=>decide (u.1≠z)),dn:=S.dn++[lgD y (.fin .w z)]}
 | fin (t:Sr) (z:Str) (p:Addr):Stp y S (.fin (.r t) z) {S with R:=upR S.R t (kpR z (S.R t)),x:=upR S.x t p,dn:=S.dn++[lgD y (.fin (.r t) z)]}
structure Dok(D:De):Prop where
 v:Dv D
 row:∃ x∈tabS,deD D=dd x.1 D.as/\D.as.length=x.2.2.length/\(∀ d∈D.as,Fl d)/\aaw x D.as=true
structure Lim(S:Bs):Prop where
 rl:Rl S
 r8:S.rs.length<=8
 tl:S.T.length<=900
 dl:S.dn.length<=900
 el:S.es.length<=900
 rT:∀ z,z∈S.rs ↔ z∈S.T.map (·.1)
inductive qy(ws:List W) (M:MH) (Q:QD) (E:XQ):Prop
 | mk (ρ:Rm) (A:Ads) (S:Bs) (D:De) (y:Str) (z0:ws=[.m A.b,.d (deD D),.d (.str y)]) (B:Bk M ρ A S) (L:Lim S) (hD:Dok D) (q:out D S=none->∀ ρ' S' M',Stp y S D S'->Bk M' ρ' A S'->Fr2 M ρ M' ρ'->Q (.d .none) M') (x:∀ u,out D S=some u->∀ a M',Ext M M'->M' a=some (.exc (xC u) (xF u))->E a M'):qy ws M Q E
def dE:SpX:=qy
theorem wN:LnX dE 3:=by rintro ws M Q E ⟨ρ,A,S,D,y,rfl,_⟩;rfl
theorem yq{M:MH}{ρ:Rm}{A:Ads}{S:Bs}{Q:QD}{D:De}{τ:DS}{y:Str}(B:Bk M ρ A S)(hl:S.dn.length<=1000)(h0:τ[0]? =some (some (.m A.b)))(h1:τ[1]? =some (some (.d (deD D))))(h2:τ[2]? =some (some (.d (.str y))))(q:∀ M',Bk M' ρ A {S with dn:=S.dn++[lgD y D]}->Fr2 M ρ M' ρ->Q (.d .none) M') :
  (eL (gx (lp aq (aj 0) "done") (eo (ah (aj 2) (ah (aj 1) aI))))) (EdQ Q) τ M:=by
 have sl:=s16;refine⟨_,h0,A.b,_,_,rfl,B.hb,rfl,A.d,_,rfl,(B.c .d).1,_,h2,_,h1,[.str y,deD D],rfl,few (by simp),_,(B.c .d).1,(by simp only[lm];omega),?_⟩;rw[show S.dn.map W.d++[W.d (PyData.tuple [PyData.str y,deD D])]=(S.dn++[lgD y D]).map W.d by simp];exact q _ (B.amD _) (Fr2.upd (B.c .d).2)
theorem alg{D:De}{S:Bs}(h1:o1 D S=none)(h2:o2 D S=none)(h3:o3 D S=none)(h4:o4 D S=none):out D S=none:=by unfold out;rw[h1,h2,h3,h4];rfl
theorem sO:RdX dE (λ Ex=>uq Ex dZ aU bo aS aV bq cS cz cY) tO:=by
 rintro ws M Q E ⟨ρ,A,S,D,y,rfl,B,L,hD,q,x⟩;obtain⟨x0,hx,e,hl,hf,hg⟩:=hD.row;refine⟨_,rfl,x0,hx,D.as,(by rw[e]),hl,hf,_,rfl,a9 (by rw[hg];rfl) ?_⟩;clear hx hl hf hg e x0;refine⟨_,rfl,A.b,_,rfl,B.hb,rfl,_,rfl,.mk ρ A S D rfl B L.rl hD.v (λ u1 M1 e1=>?_) (λ u h=>x u (by unfold out;rw[h];rfl))⟩;have B1:=B.ext e1;refine⟨_,rfl,A.b,_,rfl,B1.hb,rfl,_,rfl,.mk ρ A S D rfl B1 L.rl hD.v (λ u2 M2 e2=>?_) (λ u h a M' xt=>x u (by unfold out;rw[u1,h];rfl) a M' (e1.trans xt))⟩;have B2:=B1.ext e2;have e12:=e1.trans e2;refine⟨_,rfl,A.b,_,rfl,B2.hb,rfl,_,rfl,.mk ρ A S D rfl B2 L.rl hD.v (λ u3 M3 e3=>?_) (λ u h a M' xt=>x u (by unfold out;rw[u1,u2,h];rfl) a M' (e12.trans xt))⟩;have B3:=B2.ext e3;have e13:=e12.trans e3;refine⟨_,rfl,A.b,_,rfl,B3.hb,rfl,_,rfl,.mk ρ A S D rfl B3 L.rl hD.v (λ _ M4 e4=>?_) (λ u h=>nomatch h)⟩;have B4:=B3.ext e4;have e14:=e13.trans e4;refine⟨_,rfl,A.b,_,rfl,B4.hb,rfl,_,rfl,.mk ρ A S D rfl B4 L.rl hD.v (λ u4 M5 e5=>?_) (λ u h a M' xt=>x u (by unfold out;rw[u1,u2,u3,h];rfl) a M' (e14.trans xt))⟩;have B5:=B4.ext e5;have f5:Fr2 M ρ M5 ρ:=Fr2.ext (e14.trans e5);replace q:=q (alg u1 u2 u3 u4);clear B B1 B2 B3 B4 e1 e2 e3 e4 e5 e12 e13 e14 x u4;have dl:=L.dl;have r8:=L.r8;have tl:=L.tl;have el:=L.el;cases D with
 | row t r =>
  refine⟨_,rfl,_,_,rfl,gp _,rfl,t.nm,dG,rfl,(by cases t<;>rfl),_,rfl,dG,cS,rfl,.head _,_,rfl,_,rfl,.mk ρ A S t r rfl B5 (L.rl.l t) λ M6 B6 f6=>?_⟩;exact yq (D:=.row t r) (y:=y) B6 (by show S.dn.length<=1000;omega) rfl rfl rfl λ M7 B7 f7=>q _ _ M7 (.row t r) B7 (f5.trans (f6.trans f7))
 | fq z kd c p s h =>
  have hz:z ∉ S.rs:=λ hz=>by have:o2 (.fq z kd c p s h) S=some (.known z):=if_pos (.inl hz);rw[this] at u2;cases u2
  refine⟨_,rfl,_,_,rfl,gp _,rfl, "wish",eK,rfl,rfl,_,rfl,eK,cz,rfl,.tail _ (.head _),_,rfl,_,rfl,.mk ρ A S z kd c p s h rfl B5 (λ h=>hz ((L.rT z).mpr h)) (by omega) (by omega) λ ρ6 a l M6 B6 f6=>?_⟩;exact yq (D:=.fq z kd c p s h) (y:=y) B6 (by show S.dn.length<=1000;omega) rfl rfl rfl λ M7 B7 f7=>q _ _ M7 (.fq z kd c p s h a l) B7 (f5.trans (f6.trans f7))
 | fin n z =>
  have hz:z∈nms S n:=Classical.byContradiction λ hz=>by have:o1 (.fin n z) S=some (.unknown z):=if_neg hz;rw[this] at u1;cases u1
  cases n with
  | m=>rcases hD.v with h | h | h | h<;>cases h
  | r t =>
   refine⟨_,rfl,_,_,rfl,gp _,rfl, "end",fb,rfl,rfl,_,rfl,fb,cY,rfl,.tail _ (.tail _ (.head _)),_,rfl,_,rfl,.r ρ A S t z rfl B5 (L.rl.l t) λ ρ6 p M6 B6 f6=>?_⟩;exact yq (D:=.fin (.r t) z) (y:=y) B6 (by show S.dn.length<=1000;omega) rfl rfl rfl λ M7 B7 f7=>q _ _ M7 (.fin t z p) B7 (f5.trans (f6.trans f7))
  | w =>
   obtain⟨x,hx,rfl⟩:=List.mem_map.mp ((L.rT z).mp hz);refine⟨_,rfl,_,_,rfl,gp _,rfl, "end",fb,rfl,rfl,_,rfl,fb,cY,rfl,.tail _ (.tail _ (.head _)),_,rfl,_,rfl,.w ρ A S x rfl B5 hz hx (by omega) λ M6 B6 f6=>?_⟩;exact yq (D:=.fin .w x.1) (y:=y) B6 (by show S.dn.length<=1000;omega) rfl rfl rfl λ M7 B7 f7=>q _ _ M7 (.finW x.1) B7 (f5.trans (f6.trans f7))
def outD:Out->PyData
 | .unknown z=>.tuple [.str "unknown",.str z]
 | .known z=>.tuple [.str "known",.str z]
 | .many n=>.tuple [.str "many",.int (n:Nat)]
 | .used z=>.tuple [.str "used",.str z]
abbrev vm:PyData:=.tuple [.str "done",.none]
def aks:Option Out->PyData
 | none=>vm
 | some u=>outD u
def cP:SpD:=λ ws M Q=>∃ a u,ws=[.m a]/\M a=some (.exc (xC u) (xF u))/\Q (.d (outD u)) M
theorem sr:Ln cP 1:=by rintro ws M Q ⟨a,u,rfl,_⟩;rfl
theorem o9:Rd cP oE nB:=by
 rintro ws M Q ⟨a,u,rfl,h,k⟩;cases u with
 | unknown z=>exact⟨_,rfl,a,_,_,_,rfl,h,rfl,_,rfl,fh ⟨_,rfl,a,_,_,_,rfl,h,rfl,_,rfl,si ⟨_,rfl,a,_,_,_,rfl,h,by simp[xC],rfl,_,rfl,few (by simp),k⟩⟩⟩
 | known z=>exact⟨_,rfl,a,_,_,_,rfl,h,rfl,_,rfl,fh ⟨_,rfl,a,_,_,_,rfl,h,rfl,_,rfl,fh ⟨_,rfl,a,_,_,_,rfl,h,rfl,_,rfl,si ⟨_,rfl,a,_,_,_,rfl,h,by simp[xC],rfl,_,rfl,few (by simp),k⟩⟩⟩⟩
 | many n=>exact⟨_,rfl,a,_,_,_,rfl,h,rfl,_,rfl,fh ⟨_,rfl,a,_,_,_,rfl,h,rfl,_,rfl,fh ⟨_,rfl,a,_,_,_,rfl,h,rfl,_,rfl,fh ⟨_,rfl,a,_,_,_,rfl,h,rfl,_,rfl,si ⟨_,rfl,a,_,_,_,rfl,h,by simp[xC],rfl,_,rfl,few (by simp),k⟩⟩⟩⟩⟩
 | used z=>exact⟨_,rfl,a,_,_,_,rfl,h,rfl,_,rfl,fh ⟨_,rfl,a,_,_,_,rfl,h,rfl,_,rfl,fh ⟨_,rfl,a,_,_,_,rfl,h,rfl,_,rfl,fh ⟨_,rfl,a,_,_,_,rfl,h,rfl,_,rfl,fh ⟨_,rfl,a,_,_,_,rfl,h,rfl,_,rfl,fh ⟨_,rfl,a,_,_,_,rfl,h,rfl,_,rfl,si ⟨_,rfl,a,_,_,_,rfl,h,by simp[xC],rfl,_,rfl,few (by simp),k⟩⟩⟩⟩⟩⟩⟩
inductive uI(ws:List W) (M:MH) (Q:QD):Prop
 | mk (ρ:Rm) (A:Ads) (S:Bs) (D:De) (y:Str) (z0:ws=[.m A.b,.d (deD D),.d (.str y)]) (B:Bk M ρ A S) (L:Lim S) (hD:Dok D) (q:out D S=none->∀ ρ' S' M',Stp y S D S'->Bk M' ρ' A S'->Fr2 M ρ M' ρ'->Q (.d vm) M') (x:∀ u,out D S=some u->∀ M',Ext M M'->Q (.d (outD u)) M'):uI ws M Q
def du:SpD:=uI
theorem y0:Ln du 3:=by rintro ws M Q ⟨ρ,A,S,D,y,rfl,_⟩;rfl
theorem aie(u:Out):zo [(aw,true),(aO,true),(aD,true),(bw,true)] (xC u)=some true:=by cases u<;>rfl
theorem xb:Rd du (xv dE cP) xD:=by
 rintro ws M Q ⟨ρ,A,S,D,y,rfl,B,L,hD,q,x⟩;refine⟨_,rfl,_,_,.d,.d,rfl,_,rfl,lY (λ h=>?_) (λ _=>?_)⟩
 ·have ey:y = "hand":= by rw[cT] at h;exact of_decide_eq_true h
  subst ey;exact⟨_,rfl,A.b,_,rfl,B.hb,rfl,_,rfl,.mk ρ A S D "hand" rfl B L hD (λ o ρ' S' M' st B' f=>⟨_,rfl,_,rfl,few (by simp),q o ρ' S' M' st B' f⟩) (λ u h a M' xt ha=>⟨_,_,true,ha,aie u,si ⟨_,rfl,a,u,rfl,ha,x u h M' xt⟩⟩)⟩
 ·exact⟨_,rfl,A.b,_,rfl,B.hb,rfl,_,rfl,_,rfl,.mk ρ A S D y rfl B L hD (λ o ρ' S' M' st B' f=>⟨_,rfl,_,rfl,few (by simp),q o ρ' S' M' st B' f⟩) (λ u h a M' xt ha=>⟨_,_,true,ha,aie u,si ⟨_,rfl,a,u,rfl,ha,x u h M' xt⟩⟩)⟩
theorem dW{M:MH}{l:Addr}{o:MO}(h:M l=none):zL (bC M l o) l=M:=by
 funext q
 by_cases e:q=l
 ·subst e;rw[h];simp[zL]
 ·simp[zL,e,bC]
inductive SpL(f:Bs->List PyData) (ws:List W) (M:MH) (Q:QD):Prop
 | mk (ρ:Rm) (A:Ads) (S:Bs) (z0:ws=[.m A.b]) (B:Bk M ρ A S) (q:∀ l,M l=none->Q (.m l) (bC M l (.lst ((f S).map W.d)))):SpL f ws M Q
theorem SpL.len{f:Bs->List PyData}:∀ ws M Q,SpL f ws M Q->ws.length=1:=by rintro ws M Q ⟨ρ,A,S,rfl,_⟩;rfl
def b9:SpD:=SpL λ S=>rwD (S.R .g)
theorem og:Ln b9 1:=SpL.len
theorem mh:Rd b9 kQ ku:=by
 rintro ws M Q ⟨ρ,A,S,rfl,B,k⟩;exact⟨_,rfl,A.b,_,_,rfl,B.hb,rfl,A.t,_,.inr "group",_,rfl,.inl (B.c .t).1,rfl,rfl,_,_,rfl,.m (B.c (.x .g)).1,k⟩
def ck:SpD:=SpL λ S=>rwD (S.R .s)
theorem oS:Ln ck 1:=SpL.len
theorem mr:Rd ck kB kf:=by
 rintro ws M Q ⟨ρ,A,S,rfl,B,k⟩;exact⟨_,rfl,A.b,_,_,rfl,B.hb,rfl,A.t,_,.inr "store",_,rfl,.inl (B.c .t).1,rfl,rfl,_,_,rfl,.m (B.c (.x .s)).1,k⟩
def cA:SpD:=SpL λ S=>rwD (S.R .o)
theorem pw:Ln cA 1:=SpL.len
theorem mP:Rd cA lQ lG:=by
 rintro ws M Q ⟨ρ,A,S,rfl,B,k⟩;exact⟨_,rfl,A.b,_,_,rfl,B.hb,rfl,A.t,_,.inr "door",_,rfl,.inl (B.c .t).1,rfl,rfl,_,_,rfl,.m (B.c (.x .o)).1,k⟩
def cD:SpD:=SpL λ S=>rwD (S.R .u)
theorem oY:Ln cD 1:=SpL.len
theorem mQ:Rd cD lI lH:=by
 rintro ws M Q ⟨ρ,A,S,rfl,B,k⟩;exact⟨_,rfl,A.b,_,_,rfl,B.hb,rfl,A.t,_,.inr "rule",_,rfl,.inl (B.c .t).1,rfl,rfl,_,_,rfl,.m (B.c (.x .u)).1,k⟩
def dg:SpD:=SpL λ S=>S.dn
theorem tW:Ln dg 1:=SpL.len
theorem sE:Rd dg qw qa:=by
 rintro ws M Q ⟨ρ,A,S,rfl,B,k⟩;exact⟨_,rfl,A.b,_,_,rfl,B.hb,rfl,_,_,rfl,.m (B.c .d).1,k⟩
def bP:SpD:=λ ws M Q=>∃ ρ A S,ws=[.m A.b]/\Bk M ρ A S/\S.em=[]/\∀ l,M l=none->Q (.m l) (bC M l (.lst []))
theorem lZ:Ln bP 1:=by rintro ws M Q ⟨ρ,A,S,rfl,_⟩;rfl
theorem kZ:Rd bP jn ji:=by
 rintro ws M Q ⟨ρ,A,S,rfl,B,e,k⟩;have hq:=(B.c .q).1;rw[e] at hq;refine⟨_,rfl,A.b,_,_,rfl,B.hb,rfl,_,[],rfl,.m hq,by decide,λ zs p _ l hl=>?_⟩;rw[show zs=[] from List.perm_nil.mp p];exact k l hl
abbrev wr(x:Wi):List (Str×PyData):=[("kind",x.k),("copies",x.c),("keep",x.p),("edition",x.n),("editions",.list x.ed)]
inductive jl(ws:List W) (M:MH) (Q:QD):Prop
 | mk (x:Wi) (z0:ws=[.m x.a]) (h1:M x.a=some (.dic (wk x))) (h2:M x.l=some (.lst (x.ed.map W.d))) (q:∀ c M',Ext M M'->M' c=some (.dic (qL (wr x)))->Q (.m c) M'):jl ws M Q
def cn:SpD:=jl
theorem oM:Ln cn 1:=by rintro ws M Q ⟨x,rfl,_⟩;rfl
theorem l7:Rd cn kL kh:=by
 rintro ws M Q ⟨x,rfl,h1,h2,k⟩;have sl:=s16;refine⟨_,rfl,x.a,_,rfl,h1,λ c hc=>?_⟩;refine⟨_,rfl,x.a,_,.inr "editions",_,rfl,.inl (iN h1 hc),rfl,rfl,_,_,rfl,.m (iN h2 hc),λ l hl=>⟨l,x.ed,rfl,ao,?_⟩⟩;rw[dW hl];refine⟨_,rfl,c,_,.inr "editions",rfl,ao,rfl,(by show 5<sizeLine;omega),?_⟩;exact⟨_,rfl,k c _ (λ q o e=>by rw[ar (aT e hc),ar (aT e hc)];exact e) ao⟩
inductive iQ(ws:List W) (M:MH) (Q:QD) (E:XQ):Prop
 | yes (ρ:Rm) (A:Ads) (S:Bs) (x:Str×Wi) (z0:ws=[.m A.b,.d (.str x.1)]) (B:Bk M ρ A S) (hx:x∈S.T) (hw:wd x.1=true) (q:∀ c M',Ext M M'->M' c=some (.dic (qL (wr x.2)))->Q (.m c) M'):iQ ws M Q E
 | no (ρ:Rm) (A:Ads) (S:Bs) (z:Str) (z0:ws=[.m A.b,.d (.str z)]) (B:Bk M ρ A S) (hz:z ∉ S.T.map (·.1)) (hw:wd z=true) (x:∀ a M',Ext M M'->M' a=some (.exc aw [("name",.d (.str z))])->E a M'):iQ ws M Q E
def bF:SpX:=iQ
theorem qW:LnX bF 2:=by rintro ws M Q E (⟨ρ,A,S,x,rfl,_⟩ | ⟨ρ,A,S,z,rfl,_⟩)<;>rfl
theorem pO:RdX bF (λ Ex=>nX Ex bD cn) n8:=by
 rintro ws M Q E (⟨ρ,A,S,x,rfl,B,hx,hw,k⟩ | ⟨ρ,A,S,z,rfl,B,hz,hw,k⟩)
 ·have lk:=nG B.tn hx;refine⟨_,rfl,_,rfl,ll hw,_,rfl,?_⟩;rw[show isW (.str x.1)=true from hw];refine fh ⟨_,rfl,_,rfl,A.b,_,_,rfl,B.hb,rfl,_,.k (k:=.inr x.1) (B.c .w).1,_,rfl,?_⟩;rw[lk];exact fh ⟨_,rfl,A.b,_,_,rfl,B.hb,rfl,_,rfl,A.w,_,.inr x.1,_,rfl,.inl (B.c .w).1,rfl,lk,.mk x.2 rfl (B.c (.a x hx)).1 (B.c (.l x hx)).1 k⟩
 ·refine⟨_,rfl,_,rfl,ll hw,_,rfl,?_⟩;rw[show isW (.str z)=true from hw];refine fh ⟨_,rfl,_,rfl,A.b,_,_,rfl,B.hb,rfl,_,.k (k:=.inr z) (B.c .w).1,_,rfl,?_⟩;rw[xU hz];exact si ⟨_,rfl,rfl,by simp,nF (Ext.refl M) k⟩
def bB:SpD:=λ ws M Q=>∃ ρ A S z,ws=[.m A.b,.d (.str z)]/\Bk M ρ A S/\z ∉ S.T.map (·.1)/\wd z=true/\∀ M',Ext M M'->Q (.d (.bool true)) M'
theorem sH:Ln bB 2:=by rintro ws M Q ⟨ρ,A,S,z,rfl,_⟩;rfl
theorem o7:Rd bB (n9 bF) nM:=by
 rintro ws M Q ⟨ρ,A,S,z,rfl,B,hz,hw,k⟩;refine⟨_,rfl,A.b,_,rfl,B.hb,rfl,_,rfl,.no ρ A S z rfl B hz hw λ a M' xt ha=>⟨_,_,true,ha,rfl,si ⟨_,rfl,a,_,_,_,rfl,ha,by simp,rfl,_,rfl,_,_,.d,.d,rfl,?_⟩⟩⟩;rw[eqS];exact k M' xt
def wrw(T:List (Str×Wi))(z:Str):List (Str×PyData):=match T.find? (λ x=>decide (x.1=z)) with
 | some x=>wr x.2
 | none=>[]
theorem yv:∀ {T:List (Str×Wi)} {x:Str×Wi},(T.map (·.1)).Nodup->x∈T->wrw T x.1=wr x.2
 | [],_,_,h=>nomatch h
 | v::T,x,nd,hx=>by
  rw[List.map_cons,List.nodup_cons] at nd;unfold wrw;rw[List.find?_cons];rcases List.mem_cons.mp hx with rfl | hx
  ·rw[decide_eq_true rfl]
  ·rw[decide_eq_false (λ e:v.1=x.1=>nd.1 (e ▸ List.mem_map.mpr ⟨x,hx,rfl⟩))];exact yv nd.2 hx
abbrev itD(rows:List (Str×PyData)):List PyData:=rows.map λ p=>.tuple [.str p.1,p.2]
theorem alP(rows:List (Str×PyData)):itW rows=(itD rows).map W.d:=by rw[List.map_map];rfl
abbrev wlD(S:Bs):List PyData:=S.rs.map λ z=>.list (itD (oq (wrw S.T z)))
def stD(S:Bs):PyData:=.list ([.list (rwD (S.R .g)),jo S.rs,.list (rwD (S.R .s)),.list (rwD (S.R .o)),.list (rwD (S.R .u)),.list [],jo S.ms,.list S.dn]++wlD S)
theorem aiT(x:Wi):((wr x).map (·.1)).Nodup:=by show(["kind", "copies", "keep", "edition", "editions"]:List Str).Nodup;decide +kernel
inductive pV(ws:List W) (M:MH) (Q:QD):Prop
 | mk (ρ:Rm) (A:Ads) (S:Bs) (z0:ws=[.m A.b]) (B:Bk M ρ A S) (L:Lim S) (em:S.em=[]) (hw:∀ z∈S.rs,wd z=true) (ok:eI (stD S)=true) (q:∀ M',Ext M M'->Q (.d (.str (stD S).shown)) M'):pV ws M Q
def bR:SpD:=pV
theorem vU:Ln bR 1:=by rintro ws M Q ⟨ρ,A,S,rfl,_⟩;rfl
theorem sQ:Rd bR (tH b9 bj ck cA cD bP aW dg bF) tZ:=by
 rintro ws M Q ⟨ρ,A,S,rfl,B,L,em,hw,ok,k⟩;have sl:=s16;have r8:=L.r8;have hg:∀ (f:Bs->List PyData) (Q':QD),(∀ l,M l=none->Q' (.m l) (bC M l (.lst ((f S).map W.d))))->SpL f [.m A.b] M Q':=λ f Q' k=>.mk ρ A S rfl B k;refine⟨_,rfl,A.b,_,rfl,B.hb,rfl,hg _ _ λ l hl=>⟨l,rwD (S.R .g),rfl,ao,?_⟩⟩;rw[dW hl];clear hl l;refine⟨_,rfl,A.b,_,rfl,B.hb,rfl,⟨ρ,A,S,rfl,B,λ l M' hl _ e=>⟨l,S.rs.map PyData.str,rfl,(by rw[e,tS];exact ao),?_⟩⟩⟩;rw[e,dW hl];clear e hl;refine⟨_,rfl,A.b,_,rfl,B.hb,rfl,hg _ _ λ l hl=>⟨l,rwD (S.R .s),rfl,ao,?_⟩⟩;rw[dW hl];clear hl l;refine⟨_,rfl,A.b,_,rfl,B.hb,rfl,hg _ _ λ l hl=>⟨l,rwD (S.R .o),rfl,ao,?_⟩⟩;rw[dW hl];clear hl l;refine⟨_,rfl,A.b,_,rfl,B.hb,rfl,hg _ _ λ l hl=>⟨l,rwD (S.R .u),rfl,ao,?_⟩⟩;rw[dW hl];clear hl l;refine⟨_,rfl,A.b,_,rfl,B.hb,rfl,⟨ρ,A,S,rfl,B,em,λ l hl=>⟨l,[],rfl,ao,?_⟩⟩⟩;rw[dW hl];clear hl l;refine⟨_,rfl,few (by simp),_,rfl,?_⟩;refine⟨_,rfl,A.b,_,rfl,B.hb,rfl,⟨ρ,A,S,rfl,B,λ l M' hl _ e=>⟨l,S.ms.map PyData.str,rfl,(by rw[e,tS];exact ao),?_⟩⟩⟩;rw[e,dW hl];clear e hl;refine⟨_,rfl,A.b,_,rfl,B.hb,rfl,hg _ _ λ l hl=>⟨l,S.dn,rfl,ao,?_⟩⟩;rw[dW hl];clear hl l;refine⟨_,rfl,few (by simp),_,_,.d,.d,(by show 6+2<=sizeLine;omega),?_⟩;refine⟨_,rfl,?_⟩;refine⟨_,rfl,A.b,_,rfl,B.hb,rfl,⟨ρ,A,S,rfl,B,λ l M' hl _ e=>⟨l,S.rs.map PyData.str,rfl,(by rw[e,tS];exact ao),?_⟩⟩⟩;rw[e,dW hl];clear e hl;refine⟨_,rfl,λ i acc τ M'=>Ext M M'/\acc=(S.rs.take i).map (λ z=>.list (itD (oq (wrw S.T z))))/\∃ x,τ=[x,some (.m A.b)],⟨Ext.refl M,rfl,_,rfl⟩,?_,?_⟩
 ·rintro i w acc τ M' hw' ⟨xt,rfl,x1,rfl⟩;rw[List.getElem?_map,List.getElem?_map] at hw';obtain⟨d,hd,rfl⟩:=Option.map_eq_some_iff.mp hw';obtain⟨z,hz,rfl⟩:=Option.map_eq_some_iff.mp hd;have hi:=(List.getElem?_eq_some_iff.mp hz).1;have zm:=List.mem_of_getElem? hz;obtain⟨x,hx,rfl⟩:=List.mem_map.mp ((L.rT z).mp zm);refine⟨by rw[lm,List.length_take];omega,?_⟩;refine⟨_,rfl,A.b,_,rfl,(B.ext xt).hb,rfl,_,rfl,.yes ρ A S x rfl (B.ext xt) hx (hw _ zm) λ c M2 xt2 hc=>⟨c,wr x.2,rfl,hc,aiT x.2,(by show 5<64;decide),λ l hl=>⟨l,itD (oq (wr x.2)),rfl,(by rw[alP];exact ao),?_⟩⟩⟩;rw[dW hl];refine⟨_,rfl,xt.trans xt2,?_,_,rfl⟩;rw[List.take_succ,hz,List.map_append,Option.toList_some,List.map_singleton,yv B.tn hx]
 ·rintro acc τ M' ⟨xt,rfl,x1,rfl⟩;rw[lm,lm,List.take_length];exact⟨_,_,.d,.d,(by show 8+(wlD S).length<=sizeLine;rw[lm];omega),_,stD S,rfl,.d,ok,k M' xt⟩
structure Ams where
 m:Addr
 D:Addr
 p:Addr
 l:Addr
abbrev mkv(S:Bs)(A:Ams):List (Key×W):=[(.inr "machine",.d (jo S.ms)),(.inr "emptied",.d (.list [])),(.inr "ranked",.d (jo S.rs)),(.inr "data",.m A.D),(.inr "past",.m A.p),(.inr "log",.m A.l),(.inr "group",.d (.list (rwD (S.R .g)))),(.inr "store",.d (.list (rwD (S.R .s)))),(.inr "door",.d (.list (rwD (S.R .o)))),(.inr "rule",.d (.list (rwD (S.R .u))))]
inductive l9(A:Ams) (S:Bs) (L:List (Str×Wi)):Ro->Addr->MO->Prop
 | m:l9 A S L .b A.m (.dic (mkv S A))
 | D:l9 A S L .w A.D (.dic (kvT L))
 | p:l9 A S L .e A.p (.lst (cV S.es))
 | l:l9 A S L .d A.l (.lst (S.dn.map W.d))
 | a (x:Str×Wi) (h:x∈L):l9 A S L (.a x.1) x.2.a (.dic (qL (wr x.2)))
structure Mo(M:MH)(σ ρ:Rm)(A:Ams)(S:Bs)(L:List (Str×Wi)):Prop where
 c:∀ {c p o},l9 A S L c p o->M p=some o/\σ p=some c/\ρ p=none
 tn:(L.map (·.1)).Nodup
 rl:∀ x∈S.T,∃ y∈L,y.1=x.1/\wr y.2=wr x.2
 old:∀ y∈L,y.1∈S.rs\/y.1∈S.es
section
variable {M M':MH}{σ ρ ρ':Rm}{A:Ams}{S S':Bs}{L:List (Str×Wi)}
theorem Mo.hm(N:Mo M σ ρ A S L):M A.m=some (.dic (mkv S A)):=(N.c .m).1
theorem Mo.keep(N:Mo M σ ρ A S L)(f:Fr2 M ρ M' ρ'):Mo M' σ ρ' A S L:=⟨λ h=>by obtain⟨g1,g2,g3⟩:=N.c h;exact⟨(f _ _ g1 g3).1,g2,(f _ _ g1 g3).2⟩,N.tn,N.rl,N.old⟩
theorem Mo.same(N:Mo M σ ρ A S L)(f:∀ q r,σ q=some r->M' q=M q):Mo M' σ ρ A S L:=⟨λ h=>by obtain⟨g1,g2,g3⟩:=N.c h;exact⟨(f _ _ g2).trans g1,g2,g3⟩,N.tn,N.rl,N.old⟩
end
inductive qm(ws:List W) (M:MH) (Q:QD):Prop
 | mk (σ ρ:Rm) (A:Ams) (S:Bs) (T:List (Str×Wi)) (z0:ws=[.m A.m]) (N:Mo M σ ρ A S T) (nd:(S.T.map (·.1)).Nodup) (L:Lim S) (ok:eI (stD S)=true) (q:∀ M',Ext M M'->Q (.d (.str (stD S).shown)) M'):qm ws M Q
def bS:SpD:=qm
theorem vO:Ln bS 1:=by rintro ws M Q ⟨σ,ρ,A,S,T,rfl,_⟩;rfl
theorem vn:Rd bS tV uE:=by
 rintro ws M Q ⟨σ,ρ,A,S,T,rfl,N,nd,L,ok,k⟩;have sl:=s16;have r8:=L.r8;refine⟨_,rfl,A.m,_,.inr "group",_,rfl,.inl N.hm,rfl,rfl,_,rfl,A.m,_,.inr "ranked",_,rfl,.inl N.hm,rfl,rfl,_,rfl,A.m,_,.inr "store",_,rfl,.inl N.hm,rfl,rfl,_,rfl,A.m,_,.inr "door",_,rfl,.inl N.hm,rfl,rfl,_,rfl,A.m,_,.inr "rule",_,rfl,.inl N.hm,rfl,rfl,_,rfl,A.m,_,.inr "emptied",_,rfl,.inl N.hm,rfl,rfl,_,rfl,A.m,_,.inr "machine",_,rfl,.inl N.hm,rfl,rfl,_,rfl,A.m,_,.inr "log",_,rfl,.inl N.hm,rfl,rfl,few (by simp),λ p hp=>?_⟩;have N1:=N.keep (Fr2.ext (Ext.new (o:=.lst [.d (.list (rwD (S.R .g))),.d (jo S.rs),.d (.list (rwD (S.R .s))),.d (.list (rwD (S.R .o))),.d (.list (rwD (S.R .u))),.d (.list []),.d (jo S.ms),.m A.l]) hp));have x1:Ext M _:=Ext.new (o:=.lst [.d (.list (rwD (S.R .g))),.d (jo S.rs),.d (.list (rwD (S.R .s))),.d (.list (rwD (S.R .o))),.d (.list (rwD (S.R .u))),.d (.list []),.d (jo S.ms),.m A.l]) hp;have hp1:bC M p (.lst [.d (.list (rwD (S.R .g))),.d (jo S.rs),.d (.list (rwD (S.R .s))),.d (.list (rwD (S.R .o))),.d (.list (rwD (S.R .u))),.d (.list []),.d (jo S.ms),.m A.l]) p=_:=ao;generalize bC M p (.lst [.d (.list (rwD (S.R .g))),.d (jo S.rs),.d (.list (rwD (S.R .s))),.d (.list (rwD (S.R .o))),.d (.list (rwD (S.R .u))),.d (.list []),.d (jo S.ms),.m A.l])=M1 at N1 x1 hp1;refine⟨_,rfl,_,rfl,A.m,_,.inr "ranked",_,rfl,.inl N1.hm,rfl,rfl,_,rfl,?_⟩;rw[show(S.rs.map PyData.str).map W.d=S.rs.map λ z=>W.d (.str z) by rw[List.map_map];rfl];refine oW S.rs (λ z=>W.d (.str z)) (λ z=>.list (itD (oq (wrw S.T z)))) (λ τ=>∃ x,τ=[x,some (.m A.m)]) (by omega) ⟨_,rfl⟩ (λ z hz τ hτ R h=>?_) (λ τ q hq=>?_)
 ·obtain⟨x0,rfl⟩:=hτ;obtain⟨x,hx,rfl⟩:=List.mem_map.mp ((L.rT z).mp hz);obtain⟨y,hy,e1,e2⟩:=N.rl x hx;refine⟨_,rfl,A.m,_,.inr "data",_,rfl,.inl N1.hm,rfl,rfl,_,rfl,A.D,_,.inr x.1,_,rfl,.inl (N1.c .D).1,rfl,(by rw[<- e1];exact nG N.tn hy),y.2.a,wr x.2,rfl,(by rw[<- e2];exact(N1.c (.a y hy)).1),aiT x.2,(by show 5<64;decide),λ l hl=>⟨l,itD (oq (wr x.2)),rfl,(by rw[alP];exact ao),?_⟩⟩;rw[dW hl];have:=h [some (.d (.str x.1)),some (.m A.m)] ⟨_,rfl⟩;rw[yv nd hx] at this;exact⟨_,rfl,this⟩
 ·refine⟨p,q,_,_,rfl,rfl,iN hp1 hq,ao,(by simp;omega),λ r hr=>?_⟩;have g1:=iN (u:=.lst ((wlD S).map W.d)) (N1.c .l).1 hq;refine⟨_,stD S,2,rfl,.l ao (.cons .d (.cons .d (.cons .d (.cons .d (.cons .d (.cons .d (.cons .d (.cons (.l (iN g1 hr) (pM.ds _)) (pM.ds _))))))))),ok,k _ (x1.trans ((Ext.new hq).trans (Ext.new hr)))⟩
structure Pq(M0 M:MH)(σ:Rm)(cs:List (Ro×Addr×MO)):Prop where
 hc:∀ x∈cs,M x.2.1=some x.2.2/\σ x.2.1=some x.1/\M0 x.2.1=none
 fr:∀ c o,M0 c=some o->M c=some o/\σ c=none
section
variable {M0 M:MH}{σ:Rm}{cs:List (Ro×Addr×MO)}
theorem Pq.new(P:Pq M0 M σ cs)(c:Ro){p:Addr}(o:MO)(hp:M p=none):Pq M0 (bC M p o) (λ q=>if q=p then some c else σ q) ((c,p,o)::cs):=
 ⟨λ x hx=>by
  rcases List.mem_cons.mp hx with rfl | hx
  ·refine⟨ao,if_pos rfl,?_⟩;cases e:M0 p with
   | none=>rfl
   | some u=>rw[(P.fr p u e).1] at hp;cases hp
  ·obtain⟨h1,h2,h3⟩:=P.hc x hx;exact⟨by rw[ar (aT h1 hp)];exact h1,(if_neg (aT h1 hp)).trans h2,h3⟩,λ c o e=>by
  obtain⟨h1,h2⟩:=P.fr c o e;exact⟨by rw[ar (aT h1 hp)];exact h1,(if_neg (aT h1 hp)).trans h2⟩⟩
theorem Pq.upd(P:Pq M0 M σ cs){c:Ro}{p:Addr}{o o':MO}{cs':List (Ro×Addr×MO)}(h:(c,p,o)∈cs)(hs:∀ y∈cs',y=(c,p,o')\/(y∈cs/\y.1≠c)):Pq M0 (bC M p o') σ cs':=by
 obtain⟨h1,h2,h3⟩:=P.hc _ h;refine⟨λ x hx=>?_,λ c' u e=>⟨by rw[ar (λ z=>by rw[z,h3] at e;cases e)];exact(P.fr c' u e).1,(P.fr c' u e).2⟩⟩;rcases hs x hx with rfl | ⟨hx,n⟩
 ·exact⟨ao,h2,h3⟩
 ·obtain⟨g1,g2,g3⟩:=P.hc x hx;exact⟨by rw[ar (cne g2 h2 n)];exact g1,g2,g3⟩
end
abbrev S0(ms:List Str)(x:Sr->Addr):Bs:=⟨ms,[],[],[],[],λ _=>[],x,[]⟩
def gg:SpD:=λ ws M Q=>∃ ms,ws=[.d (jo ms)]/\∀ (σ:Rm) (A:Ams) M',(∀ q o,M q=some o->M' q=some o/\σ q=none)->(∀ x c p o,l9 A (S0 ms x) [] c p o->M' p=some o/\σ p=some c/\M p=none)->Q (.m A.m) M'
theorem abY:Ln gg 1:=by rintro ws M Q ⟨ms,rfl,_⟩;rfl
theorem zz:Rd gg aa7 aco:=by
 rintro ws M Q ⟨ms,rfl,k⟩;have sl:=s16;intro m hm;have P0:Pq M M (λ _=>none) []:=⟨nofun,λ c o e=>⟨e,rfl⟩⟩;have P1:=P0.new .b (.dic []) hm;refine⟨_,rfl,_,_,rfl,.l,λ l hl=>⟨l,ms.map PyData.str,rfl,ao,?_⟩⟩;rw[dW hl];clear hl;refine⟨_,rfl,few (by simp),_,rfl,few (by simp),λ D hD=>?_⟩;have P2:=P1.new .w (.dic []) hD;refine⟨few (by simp),λ p hp=>?_⟩;have P3:=P2.new .e (.lst []) hp;refine⟨few (by simp),λ g hg=>?_⟩;have P4:=P3.new .d (.lst []) hg
 let kv1:List (Key×W):=[(.inr "machine",.d (jo ms)),(.inr "emptied",.d (.list [])),(.inr "ranked",.d (.list [])),(.inr "data",.m D),(.inr "past",.m p),(.inr "log",.m g)]
 refine⟨(P4.hc (.b,m,.dic []) (by simp)).1,kv1,rfl,(by show 6<=15;decide),(by show([.inr "machine",.inr "emptied",.inr "ranked",.inr "data",.inr "past",.inr "log"]:List Key).Nodup;decide +kernel),?_⟩;have P5:=P4.upd (c:=.b) (p:=m) (o:=.dic []) (o':=.dic kv1) (cs':=[(.d,g,.lst []),(.e,p,.lst []),(.w,D,.dic []),(.b,m,.dic kv1)]) (by simp) (by simp);refine⟨_,rfl,m,_,rfl,ao,λ r hr=>⟨_,rfl,few (by simp),_,rfl,few (by simp),_,rfl,few (by simp),_,rfl,few (by simp),rfl,[(.inr "group",.list []),(.inr "store",.list []),(.inr "door",.list []),(.inr "rule",.list [])],rfl,(by show 4<=15;decide),(by show([.inr "group",.inr "store",.inr "door",.inr "rule"]:List Key).Nodup;decide +kernel),_,[(.inr "group",.list []),(.inr "store",.list []),(.inr "door",.list []),(.inr "rule",.list [])],ao,rfl,(by show([.inr "machine",.inr "emptied",.inr "ranked",.inr "data",.inr "past",.inr "log",.inr "group",.inr "store",.inr "door",.inr "rule"]:List Key).Nodup;decide +kernel),(by show 6+4<=sizeLine;omega),?_⟩⟩;have P6:=P5.upd (c:=.b) (p:=m) (o:=.dic kv1) (o':=.dic (mkv (S0 ms λ _=>0) ⟨m,D,p,g⟩)) (cs':=[(.d,g,.lst []),(.e,p,.lst []),(.w,D,.dic []),(.b,m,.dic (mkv (S0 ms λ _=>0) ⟨m,D,p,g⟩))]) (by simp) (by simp);refine⟨_,rfl,k _ ⟨m,D,p,g⟩ _ P6.fr λ x c q o h=>?_⟩;cases h with
 | m=>exact P6.hc (.b,m,.dic (mkv (S0 ms λ _=>0) ⟨m,D,p,g⟩)) (by simp)
 | D=>exact P6.hc (.w,D,.dic []) (by simp)
 | p=>exact P6.hc (.e,p,.lst []) (by simp)
 | l=>exact P6.hc (.d,g,.lst []) (by simp)
 | a y h=>cases h
theorem xj(S:Bs)(A:Ams)(t:Sr):lA (mkv S A) (.inr t.nm)=some (.d (.list (rwD (S.R t)))):=by cases t<;>rfl
def bp:SpD:=λ ws M Q=>∃ σ ρ A S L n,ws=[.m A.m,.d (.str (Sn.nm n))]/\Mo M σ ρ A S L/\(∀ t,(S.R t).length<=900)/\Q (.d (jo (nms S n))) M
theorem wL:Ln bp 2:=by rintro ws M Q ⟨σ,ρ,A,S,L,n,rfl,_⟩;rfl
theorem uY:Rd bp uD sV:=by
 rintro ws M Q ⟨σ,ρ,A,S,L,n,rfl,N,hl,k⟩;cases n with
 | w=>exact⟨_,rfl,_,_,.d,.d,rfl,_,rfl,bW (eqS _) ⟨_,rfl,A.m,_,.inr "ranked",_,rfl,.inl N.hm,rfl,rfl,k⟩⟩
 | m=>exact⟨_,rfl,_,_,.d,.d,rfl,_,rfl,a9 (neS (by decide +kernel)) ⟨_,rfl,_,_,.d,.d,rfl,_,rfl,bW (eqS _) ⟨_,rfl,A.m,_,.inr "machine",_,rfl,.inl N.hm,rfl,rfl,k⟩⟩⟩
 | r t =>
  obtain⟨n1,n2,_⟩:=sk t;refine⟨_,rfl,_,_,.d,.d,rfl,_,rfl,a9 (neS n2) ⟨_,rfl,_,_,.d,.d,rfl,_,rfl,a9 (neS n1) ⟨_,rfl,_,rfl,A.m,_,.inr t.nm,_,rfl,.inl N.hm,rfl,xj S A t,_,rfl,?_⟩⟩⟩;have hlt:=hl t;rw[show(rwD (S.R t)).map W.d=(S.R t).map λ r=>W.d (.tuple r.ds) by rw[List.map_map];rfl];refine oW (S.R t) (λ r=>W.d (.tuple r.ds)) (λ r=>.str r.z) (λ τ=>∃ x,τ=[x]) (by omega) ⟨_,rfl⟩ (λ r hr τ hτ R' h'=>?_) (λ τ=>?_)
  ·obtain⟨x,rfl⟩:=hτ;exact⟨_,rfl,_,_,rfl,ahl r,rfl,_,rfl,h' _ ⟨_,rfl⟩⟩
  ·rw[show(S.R t).map (λ r=>PyData.str r.z)=(nms S (.r t)).map PyData.str by show _=((S.R t).map (·.z)).map PyData.str;rw[List.map_map];rfl];exact k
def lkD:Option Out->PyData
 | some (.unknown z)=>.str z
 | _=>.none
inductive qD(ws:List W) (M:MH) (Q:QD):Prop
 | mk (σ ρ:Rm) (A:Ams) (S:Bs) (L:List (Str×Wi)) (D:De) (z0:ws=[.m A.m,.d (deD D)]) (N:Mo M σ ρ A S L) (hl:Rl S) (hv:Dv D) (q:∀ M',Ext M M'->Q (.d (lkD (o1 D S))) M'):qD ws M Q
def dY:SpD:=qD
theorem wZ:Ln dY 2:=by rintro ws M Q ⟨σ,ρ,A,S,L,D,rfl,_⟩;rfl
abbrev aiX:List (Key×W):=[(.inr "store",.d (.tuple [.str "wish",.int 2])),(.inr "door",.d (.tuple [.str "wish",.int 2])),(.inr "rule",.d (.tuple [.str "door",.int 2])),(.inr "empty",.d (.tuple [.str "machine",.int 1]))]
abbrev ahv:List (Key×PyData):=[(.inr "fill",.tuple [.str "machine",.int 1]),(.inr "copies",.tuple [.str "wish",.int 1]),(.inr "edition",.tuple [.str "wish",.int 1])]
abbrev ahz:List (Key×PyData):=[(.inr "back",.tuple [.str "wish",.int 1]),(.inr "rank",.tuple [.str "wish",.int 1])]
theorem rq{M:MH}{Q:QD}{σ ρ:Rm}{A:Ams}{S:Bs}{L:List (Str×Wi)}{D:De}{n:Sn}{z:Str}{j:Nat}{τ:DS}(N:Mo M σ ρ A S L)(hl:Rl S)(h0:τ[0]? =some (some (.m A.m)))(h1:τ[1]? =some (some (.d (deD D))))(h3:τ[3]? =some (some (.d (.str n.nm))))(h4:τ[4]? =some (some (.d (.int (j:Nat)))))(hj:((.str D.nm:PyData)::D.as)[j]? =some (.str z))(hn:need D=some (n,z))(k:Q (.d (lkD (o1 D S))) M) :
  (bA (dIf (aJ (dOp (mj false) (dOp bL (aj 1) (aj 4)) (bH bp (ah (aj 0) (ah (aj 3) aI)))))
   (cF (dC (.d .none)))
   bx) <|
  cF (dOp bL (aj 1) (aj 4))) (EdQ Q) τ M:=by
 have ix:∀ {M:MH},ixW M (.d (deD D)) (j:Nat)=some (.d (.str z)):=λ {M}=>dN hj;obtain⟨u1,u2⟩:=zR (S:=S) hn;refine⟨_,h1,_,h4,_,_,rfl,ix,rfl,_,h0,_,h3,σ,ρ,A,S,L,n,rfl,N,hl.l,z,nms S n,rfl,aj8 _,_,rfl,?_⟩
 by_cases h:z∈nms S n
 ·rw[u1 h] at k;exact bW (decide_eq_true h) k
 ·rw[u2 h] at k;exact a9 (decide_eq_false h) ⟨_,h1,_,h4,_,_,rfl,ix,rfl,k⟩
theorem uf:Rd dY (vb bp) vk:=by
 rintro ws M Q ⟨σ,ρ,A,S,L,D,rfl,N,hl,hv,k⟩;have sl:=s16;intro a ha;refine⟨_,rfl,few (by simp),_,rfl,few (by simp),_,rfl,few (by simp),_,rfl,few (by simp),ao,aiX,rfl,(by show 4<=15;decide),(by show([.inr "store",.inr "door",.inr "rule",.inr "empty"]:List Key).Nodup;decide +kernel),?_⟩;rw[fQ];refine⟨_,rfl,a,_,rfl,ao,λ r hr=>⟨_,rfl,few (by simp),_,rfl,few (by simp),_,rfl,few (by simp),rfl,ahv,rfl,(by show 3<=15;decide),(by show([.inr "fill",.inr "copies",.inr "edition"]:List Key).Nodup;decide +kernel),_,ahv,ao,rfl,(by show([.inr "store",.inr "door",.inr "rule",.inr "empty",.inr "fill",.inr "copies",.inr "edition"]:List Key).Nodup;decide +kernel),(by show 4+3<=sizeLine;omega),?_⟩⟩;clear hr r;rw[fQ];refine⟨_,rfl,a,_,rfl,ao,λ r hr=>⟨_,rfl,few (by simp),_,rfl,few (by simp),rfl,ahz,rfl,(by show 2<=15;decide),(by show([.inr "back",.inr "rank"]:List Key).Nodup;decide +kernel),_,ahz,ao,rfl,(by show([.inr "store",.inr "door",.inr "rule",.inr "empty",.inr "fill",.inr "copies",.inr "edition",.inr "back",.inr "rank"]:List Key).Nodup;decide +kernel),(by show 7+2<=sizeLine;omega),?_⟩⟩;clear hr r;rw[fQ];have xt:Ext M (bC M a (.dic ((aiX++ik ahv)++ik ahz))):=Ext.new ha;have hm:bC M a (.dic ((aiX++ik ahv)++ik ahz)) a=some (.dic ((aiX++ik ahv)++ik ahz)):=ao;generalize bC M a (.dic ((aiX++ik ahv)++ik ahz))=M1 at xt hm;have N1:=N.keep (Fr2.ext xt);replace k:=k M1 xt;cases D with
 | fq z kd c p s h=>exact⟨_,rfl,_,_,rfl,gp _,rfl,_,_,.d,.d,rfl,_,rfl,a9 (neS (by simp only[De.nm];decide +kernel)) ⟨_,rfl,_,_,rfl,gp _,rfl,_,rfl,_,.k (k:=.inr "wish") hm,_,rfl,a9 (by decide +kernel) k⟩⟩
 | fin n z=>exact⟨_,rfl,_,_,rfl,gp _,rfl,_,_,.d,.d,rfl,_,rfl,bW (eqS _) ⟨_,rfl,_,_,rfl,zI rfl,rfl,_,_,rfl,rq (D:=.fin n z) (n:=n) (j:=2) N1 hl rfl rfl rfl rfl rfl rfl k⟩⟩
 | row t r =>
  cases t with
  | g=>exact⟨_,rfl,_,_,rfl,gp _,rfl,_,_,.d,.d,rfl,_,rfl,a9 (neS (by simp only[De.nm,Sr.nm];decide +kernel)) ⟨_,rfl,_,_,rfl,gp _,rfl,_,rfl,_,.k (k:=.inr "group") hm,_,rfl,a9 (by decide +kernel) k⟩⟩
  | s =>
   have hw:r.w=.str r.v:=hv.resolve_left nofun;exact⟨_,rfl,_,_,rfl,gp _,rfl,_,_,.d,.d,rfl,_,rfl,a9 (neS (by simp only[De.nm,Sr.nm];decide +kernel)) ⟨_,rfl,_,_,rfl,gp _,rfl,_,rfl,_,.k (k:=.inr "store") hm,_,rfl,bW (by decide +kernel) ⟨_,rfl,_,rfl,_,_,rfl,gp _,rfl,a,_,.inr "store",_,rfl,.inl hm,rfl,rfl,_,rfl,rfl,_,_,rfl,_,_,rfl,rfl,rq (D:=.row .s r) (n:=.w) (j:=2) N1 hl rfl rfl rfl rfl (by rw[<- hw];rfl) rfl k⟩⟩⟩
  | o =>
   have hw:r.w=.str r.v:=hv.resolve_left nofun;exact⟨_,rfl,_,_,rfl,gp _,rfl,_,_,.d,.d,rfl,_,rfl,a9 (neS (by simp only[De.nm,Sr.nm];decide +kernel)) ⟨_,rfl,_,_,rfl,gp _,rfl,_,rfl,_,.k (k:=.inr "door") hm,_,rfl,bW (by decide +kernel) ⟨_,rfl,_,rfl,_,_,rfl,gp _,rfl,a,_,.inr "door",_,rfl,.inl hm,rfl,rfl,_,rfl,rfl,_,_,rfl,_,_,rfl,rfl,rq (D:=.row .o r) (n:=.w) (j:=2) N1 hl rfl rfl rfl rfl (by rw[<- hw];rfl) rfl k⟩⟩⟩
  | u =>
   have hw:r.w=.str r.v:=hv.resolve_left nofun;exact⟨_,rfl,_,_,rfl,gp _,rfl,_,_,.d,.d,rfl,_,rfl,a9 (neS (by simp only[De.nm,Sr.nm];decide +kernel)) ⟨_,rfl,_,_,rfl,gp _,rfl,_,rfl,_,.k (k:=.inr "rule") hm,_,rfl,bW (by decide +kernel) ⟨_,rfl,_,rfl,_,_,rfl,gp _,rfl,a,_,.inr "rule",_,rfl,.inl hm,rfl,rfl,_,rfl,rfl,_,_,rfl,_,_,rfl,rfl,rq (D:=.row .u r) (n:=.r .o) (j:=2) N1 hl rfl rfl rfl rfl (by rw[<- hw];rfl) rfl k⟩⟩⟩
def usW(z:Str):W->Option PyData
 | .d (.tuple (.str y::.str v::_))=>if v=z then some (.str y) else none
 | _=>none
theorem aeJ(z:Str)(r:Rw)(h:r.w=.str r.v):usW z (.d (.tuple r.ds))=if r.v=z then some (.str r.z) else none:=by
 unfold Rw.ds;rw[h];rfl
theorem aeP(z:Str):∀ (rs:List Rw),(∀ r∈rs,r.w=.str r.v)->((rwD rs).map W.d).filterMap (usW z)=((rs.filter λ r=>decide (r.v=z)).map (·.z)).map PyData.str
 | [],_=>rfl
 | r::rs,h=>by
  show((W.d (.tuple r.ds))::(rwD rs).map W.d).filterMap (usW z)=_;have ih:=aeP z rs λ x hx=>h x (by simp[hx]);have e:=aeJ z r (h r (by simp))
  by_cases hv:r.v=z
  ·rw[if_pos hv] at e;rw[List.filterMap_cons_some e,ih,List.filter_cons_of_pos (by simp[hv])];rfl
  ·rw[if_neg hv] at e;rw[List.filterMap_cons_none e,ih,List.filter_cons_of_neg (by simp[hv])]
inductive qQ(ws:List W) (M:MH) (Q:QD):Prop
 | mk (σ ρ:Rm) (A:Ams) (S:Bs) (L:List (Str×Wi)) (n:Sn) (z:Str) (z0:ws=[.m A.m,.d (.str n.nm),.d (.str z)]) (N:Mo M σ ρ A S L) (hl:Rl S) (hn:n=.w\/n=.r .s\/n=.r .o\/n=.r .u) (q:Q (.d (jo ((usr S (.fin n z)).map (·.z)))) M):qQ ws M Q
def bT:SpD:=qQ
theorem wD:Ln bT 3:=by rintro ws M Q ⟨σ,ρ,A,S,L,n,z,rfl,_⟩;rfl
theorem ajX{M:MH}{Q:List PyData->MH->Prop}{z:Str}{rs:List Rw}{τ:DS}(h2:τ[2]? =some (some (.d (.str z))))(hl:rs.length<=2000)(hw:∀ r∈rs,r.w=.str r.v)(k:Q (((rs.filter λ r=>decide (r.v=z)).map (·.z)).map PyData.str) M) :
  ∃ P:Nat->List PyData->DS->MH->Prop,P 0 [] (aej 1 [2] τ) M /\
   (∀ i w acc τ M,((rwD rs).map W.d)[i]? =some w->P i acc τ M->acc.length<sizeLine/\gN 0 w τ M λ τ2 M2=>(aJ (dOp bU (dOp bL (aj 0) (dI 1)) (aj 1))) τ2 M2 λ b M3=>if b=true then (dOp bL (aj 0) (dI 0)) τ2 M3 λ y M4=>∃ d,y=.d d/\P (i+1) (acc++[d]) τ2 M4 else P (i+1) acc τ2 M3) /\
   ∀ acc τ M,P ((rwD rs).map W.d).length acc τ M->Q acc M:=by
 have sl:=s16;refine nR (usW z) (by simp only[lm];omega) (λ w hw' P' hP=>?_) (by rw[aeP z rs hw];exact k);obtain⟨i,hi⟩:=List.mem_iff_getElem?.mp hw';obtain⟨r,hr,rfl⟩:=rw_at hi;have hv:=hw r (List.mem_of_getElem? hr);rw[aeJ z r hv] at hP;simp only[List.map_cons,List.map_nil,h2,Option.getD_some];refine⟨_,rfl,_,_,rfl,(show ixW _ _ 1=some (.d (.str r.v)) by rw[<- hv];exact amc r),rfl,_,rfl,_,_,.d,.d,rfl,_,rfl,?_⟩;rw[cT]
 by_cases h:r.v=z
 ·rw[if_pos h] at hP;exact bW (decide_eq_true h) ⟨_,rfl,_,_,rfl,ahl r,rfl,_,rfl,rfl,hP⟩
 ·rw[if_neg h] at hP;exact a9 (decide_eq_false h) ⟨rfl,hP⟩
theorem ug:Rd bT uQ vw:=by
 rintro ws M Q ⟨σ,ρ,A,S,L,n,z,rfl,N,hl,hn,k⟩;have sl:=s16;have l1:=hl.l .s;have l2:=hl.l .o;have l3:=hl.l .u;rcases hn with rfl | rfl | rfl | rfl
 ·refine⟨_,rfl,_,_,.d,.d,rfl,_,rfl,bW (eqS _) ⟨_,rfl,A.m,_,.inr "store",_,rfl,.inl N.hm,rfl,rfl,_,rfl,A.m,_,.inr "door",_,rfl,.inl N.hm,rfl,rfl,_,_,.d,.d,(by simp only[lm];omega),_,rfl,?_⟩⟩;rw[show rwD (S.R .s)++rwD (S.R .o)=rwD (S.R .s++S.R .o) by simp];refine ajX rfl (by simp;omega) (λ r hr=>?_) ?_
  ·rcases List.mem_append.mp hr with hr | hr
   ·exact hl.v .s nofun r hr
   ·exact hl.v .o nofun r hr
  ·have e:usr S (.fin .w z)=(S.R .s++S.R .o).filter λ r=>decide (r.v=z):=by show((S.R .s++(S.R .o++[])).filter λ r:Rw=>decide (r.v=z))=_;rw[List.append_nil]
   rw[e] at k;exact k
 ·exact⟨_,rfl,_,_,.d,.d,rfl,_,rfl,a9 (neS (by decide +kernel)) ⟨_,rfl,_,_,.d,.d,rfl,_,rfl,a9 (neS (by decide +kernel)) ⟨_,rfl,few (by simp),k⟩⟩⟩
 ·refine⟨_,rfl,_,_,.d,.d,rfl,_,rfl,a9 (neS (by decide +kernel)) ⟨_,rfl,_,_,.d,.d,rfl,_,rfl,bW (eqS _) ⟨_,rfl,A.m,_,.inr "rule",_,rfl,.inl N.hm,rfl,rfl,_,rfl,?_⟩⟩⟩;refine ajX rfl (by omega) (λ r hr=>hl.v .u nofun r hr) ?_;have e:usr S (.fin (.r .o) z)=(S.R .u).filter λ r=>decide (r.v=z):=by show((S.R .u++[]).filter λ r:Rw=>decide (r.v=z))=_;rw[List.append_nil]
  rw[e] at k;exact k
 ·exact⟨_,rfl,_,_,.d,.d,rfl,_,rfl,a9 (neS (by decide +kernel)) ⟨_,rfl,_,_,.d,.d,rfl,_,rfl,a9 (neS (by decide +kernel)) ⟨_,rfl,few (by simp),k⟩⟩⟩
abbrev wH:List (Key×W):=[(.inr "group",.d (.int 4)),(.inr "wish",.d (.int 8)),(.inr "store",.d (.int 4)),(.inr "door",.d (.int 6)),(.inr "rule",.d (.int 4))]
theorem tq{n:Sn}(h:n=.w\/∃ t,n=.r t):lA wH (.inr n.nm)=some (.d (.int (most n:Nat))):=by
 rcases h with rfl | ⟨t,rfl⟩
 ·rfl
 ·cases t<;>rfl
structure Mst(S:Bs):Prop where
 l:∀ n,(n=.w\/∃ t,n=.r t)->(nms S n).length<=most n
 w:∀ t,∀ r∈S.R t,wd r.z=true
inductive yp(ws:List W) (M:MH) (Q:QD):Prop
 | mk (σ ρ:Rm) (A:Ams) (S:Bs) (L:List (Str×Wi)) (D:De) (z0:ws=[.m A.m,.d (deD D)]) (N:Mo M σ ρ A S L) (hl:Rl S) (hm:Mst S) (hv:Dv D) (q:∀ M',Ext M M'->Q (.d (aks (out D S))) M'):yp ws M Q
def d5:SpD:=yp
theorem abr:Ln d5 2:=by rintro ws M Q ⟨σ,ρ,A,S,L,D,rfl,_⟩;rfl
theorem akq(D:De)(S:Bs):o1 D S=none\/∃ z,o1 D S=some (.unknown z):=by
 unfold o1;cases need D with
 | none=>exact .inl rfl
 | some nz =>
  obtain⟨n,z⟩:=nz
  by_cases h:z∈nms S n
  ·exact .inl (if_pos h)
  ·exact .inr ⟨z,if_neg h⟩
def aeS(bT:SpD):TSd:=
  bA (dIf (vC (aJ (dOp bU (aj 2) (dS "edition"))) (aJ (dOp bU (dCB jC (ah (bf (bf (bf (aj 0) (dS "data")) (dOp bL (aj 1) (dI 1))) (dS "editions")) aI)) (dI 9))))
   (cF (eo (ah (dS "many") (ah (dI 9) aI))))
   bx) <|
  bA (dIf (vC (aJ (dOp bU (aj 2) (dS "back"))) (aJ (dOp bU (bf (bf (bf (aj 0) (dS "data")) (dOp bL (aj 1) (dI 1))) (dS "edition")) (dI 1))))
   (cF (eo (ah (dS "noback") (ah (dC (.d .none)) aI))))
   bx) <|
  bA (dIf (vC (aJ (dOp bU (aj 2) (dS "end"))) (aJ (dOp jA (bH bT (ah (aj 0) (ah (dOp bL (aj 1) (dI 1)) (ah (dOp bL (aj 1) (dI 2)) aI)))) (jF aI))))
   (cF (eo (ah (dS "used") (ah (dOp bL (bH bT (ah (aj 0) (ah (dOp bL (aj 1) (dI 1)) (ah (dOp bL (aj 1) (dI 2)) aI)))) (dI 0)) aI))))
   bx) <|
  cF (eo (ah (dS "done") (ah (dC (.d .none)) aI)))
theorem xW{Q:QD}{τ:DS}{M:MH}{nm:Str}(h2:τ[2]? =some (some (.d (.str nm))))(n1:nm ≠ "edition")(n2:nm ≠ "back")(n3:nm ≠ "end")(k:Q (.d vm) M):aeS bT (EdQ Q) τ M:=
 ⟨_,h2,_,_,.d,.d,rfl,_,rfl,a9 (neS n1) (fh ⟨_,h2,_,_,.d,.d,rfl,_,rfl,a9 (neS n2) (fh ⟨_,h2,_,_,.d,.d,rfl,_,rfl,a9 (neS n3) (fh ⟨_,rfl,few (by simp),k⟩)⟩)⟩)⟩
theorem aeU(d:PyData)(ds:List PyData):PyData.eqv (.list (d::ds)) (.list [])=false:=by simp[PyData.eqv,PyData.eqvAll]
theorem nil_eq:PyData.eqv (.list []) (.list [])=true:=by simp[PyData.eqv,PyData.eqvAll]
theorem agY{Q:QD}{τ:DS}{M:MH}{σ ρ:Rm}{A:Ams}{S:Bs}{L:List (Str×Wi)}{n:Sn}{z:Str}(N:Mo M σ ρ A S L)(hl:Rl S)(hm:Mst S)(hn:n=.w\/n=.r .s\/n=.r .o\/n=.r .u)(h0:τ[0]? =some (some (.m A.m)))(h1:τ[1]? =some (some (.d (deD (.fin n z)))))(h2:τ[2]? =some (some (.d (.str "end"))))(k:Q (.d (aks (o4 (.fin n z) S))) M):aeS bT (EdQ Q) τ M:=by
 refine⟨_,h2,_,_,.d,.d,rfl,_,rfl,a9 (neS (by decide +kernel)) (fh ⟨_,h2,_,_,.d,.d,rfl,_,rfl,a9 (neS (by decide +kernel)) (fh ⟨_,h2,_,_,.d,.d,rfl,_,rfl,bW (eqS _) ⟨_,h0,_,h1,_,_,rfl,zI rfl,rfl,_,h1,_,_,rfl,dN (j:=2) rfl,rfl,.mk σ ρ A S L n z rfl N hl hn ⟨_,rfl,few (by simp),_,_,.d,.d,?_,_,rfl,?_⟩⟩⟩)⟩)⟩
 ·refine mB (k:=1) (by decide) (wx λ y hy=>?_) rfl;obtain⟨r,hr,rfl⟩:=List.mem_map.mp hy;obtain⟨t,_,hr⟩:=List.mem_flatMap.mp (List.mem_filter.mp hr).1;exact hm.w t r hr
 ·unfold o4 at k;cases e:usr S (.fin n z) with
  | nil =>
   rw[e] at k;exact a9 (by show(!PyData.eqv (.list []) (.list []))=false;rw[nil_eq];rfl) ⟨_,rfl,few (by simp),k⟩
  | cons r rs =>
   rw[e] at k;refine bW (by show(!PyData.eqv (.list (.str r.z::_)) (.list []))=true;rw[aeU];rfl) ⟨_,h0,_,h1,_,_,rfl,zI rfl,rfl,_,h1,_,_,rfl,dN (j:=2) rfl,rfl,.mk σ ρ A S L n z rfl N hl hn ?_⟩;rw[e];exact⟨0,.d (.str r.z),rfl,(by show(atI _ ((0:Nat):Int)).map W.d=_;rw[vF (v:=.str r.z) rfl];rfl),rfl,[.str "used",.str r.z],rfl,few (by simp),k⟩
theorem agv{Ed:Ed}{τ:DS}{M:MH}{σ ρ:Rm}{A:Ams}{S:Bs}{L:List (Str×Wi)}{n:Sn}{b:Addr}(N:Mo M σ ρ A S L)(hl:Rl S)(hm:Mst S)(hn:n=.w\/∃ t,n=.r t)(hb:M b=some (.dic wH))(h0:τ[0]? =some (some (.m A.m)))(h2:τ[2]? =some (some (.d (.str n.nm))))(h4:τ[4]? =some (some (.m b)))(k1:most n<=(nms S n).length->Ed.rt (.d (.tuple [.str "many",.int (most n:Nat)])) M)(k2:¬ most n<=(nms S n).length->Ed.nx τ M) :
  (dIf (aJ (dOp bU (dCB jC (ah (bH bp (ah (aj 0) (ah (aj 2) aI))) aI)) (bf (aj 4) (aj 2))))
    (cF (eo (ah (dS "many") (ah (bf (aj 4) (aj 2)) aI))))
    bx) Ed τ M:=by
 have mg:=tq hn;refine⟨_,h0,_,h2,σ,ρ,A,S,L,n,rfl,N,hl.l,_,_,rfl,rfl,rfl,_,h4,_,h2,b,_,.inr n.nm,_,rfl,.inl hb,rfl,mg,_,_,.d,.d,rfl,_,rfl,?_⟩;rw[lm,ym];have hle:=hm.l n hn
 by_cases h:most n<=(nms S n).length
 ·exact bW (decide_eq_true (by omega)) ⟨_,h4,_,h2,b,_,.inr n.nm,_,rfl,.inl hb,rfl,mg,[.str "many",.int (most n:Nat)],rfl,few (by simp),k1 h⟩
 ·exact a9 (decide_eq_false (by omega)) (k2 h)
theorem zq:Rd d5 (abJ dY bp bT) aaB:=by
 rintro ws M Q ⟨σ,ρ,A,S,L,D,rfl,N,hl,hm,hv,k⟩;have sl:=s16;refine⟨_,rfl,_,_,rfl,gp _,rfl,_,rfl,_,rfl,.mk σ ρ A S L D rfl N hl hv λ M1 x1=>?_⟩;rcases akq D S with u1 | ⟨z,u1⟩
 case inr =>
  have e:out D S=some (.unknown z):=by unfold out;rw[u1];rfl
  rw[u1];rw[e] at k;exact⟨_,rfl,rfl,_,rfl,si ⟨_,rfl,[.str "unknown",.str z],rfl,few (by simp),k M1 x1⟩⟩
 rw[u1];refine⟨_,rfl,rfl,_,rfl,fh λ b hb=>⟨ao,wH,rfl,(by show 5<=15;decide),(by show([.inr "group",.inr "wish",.inr "store",.inr "door",.inr "rule"]:List Key).Nodup;decide +kernel),?_⟩⟩;rw[fQ];have x2:Ext M (bC M1 b (.dic wH)):=x1.trans (Ext.new hb);have hb2:bC M1 b (.dic wH) b=some (.dic wH):=ao;generalize bC M1 b (.dic wH)=M2 at x2 hb2;have N2:=N.keep (Fr2.ext x2);replace k:=k M2 x2;cases hmk:adL D with
 | some nz =>
  obtain⟨n,z⟩:=nz;obtain⟨e1,e2,hn⟩:=afY hmk;have i1:∀ {M:MH},ixW M (.d (deD D)) 1=some (.d (.str z)):=λ {M}=>zI e2;have mg:=tq hn;have o2i:o2 D S=if z∈nms S n\/(n=.w/\z∈S.es) then some (.known z) else none:=by unfold o2;rw[hmk]
  have o3i:o3 D S=if most n<=(nms S n).length then some (.many (most n)) else none:=by unfold o3;rw[hmk]
  have o4i:o4 D S=none:=by
   cases D with
   | fin=>cases hmk
   | _=>rfl
  have dne:D.nm ≠ "edition" /\ D.nm ≠ "back" /\ D.nm ≠ "end":= by
   rw[e1];rcases hn with rfl | ⟨t,rfl⟩
   ·decide +kernel
   ·obtain⟨_,_,h3,h4,h5,_⟩:=sk t;exact⟨h4,h5,h3⟩
  rw[e1] at dne ⊢;have known:(z∈nms S n\/(n=.w/\z∈S.es))->Q (.d (.tuple [.str "known",.str z])) M2:=λ h=>by
   have e:out D S=some (.known z):=by unfold out;rw[u1,o2i,if_pos h];rfl
   rw[e] at k;exact k
  have last:∀ {Ed:Ed} {τ:DS},Ed.rt=Q->τ[0]? =some (some (.m A.m))->τ[2]? =some (some (.d (.str n.nm)))->τ[4]? =some (some (.m b))->(Q (.d vm) M2->Ed.nx τ M2)->¬ (z∈nms S n\/(n=.w/\z∈S.es)) ->
    (dIf (aJ (dOp bU (dCB jC (ah (bH bp (ah (aj 0) (ah (aj 2) aI))) aI)) (bf (aj 4) (aj 2))))
    (cF (eo (ah (dS "many") (ah (bf (aj 4) (aj 2)) aI))))
    bx) Ed τ M2:=λ {Ed τ} hq h0 h2 h4 kk hno=>by
   refine agv N2 hl hm hn hb2 h0 h2 h4 (λ h=>?_) (λ h=>kk ?_)
   ·have e:out D S=some (.many (most n)):=by unfold out;rw[u1,o2i,if_neg hno,o3i,if_pos h];rfl
    rw[e] at k;rw[hq];exact k
   ·have e:out D S=none:=by unfold out;rw[u1,o2i,if_neg hno,o3i,if_neg h,o4i];rfl
    rw[e] at k;exact k
  refine⟨_,rfl,_,rfl,_,.k (k:=.inr n.nm) hb2,_,rfl,bW (by rw[mg];rfl) ?_⟩;refine⟨_,rfl,_,_,rfl,i1,rfl,_,rfl,_,rfl,σ,ρ,A,S,L,n,rfl,N2,hl.l,z,nms S n,rfl,aj8 _,_,rfl,?_⟩
  by_cases h1:z∈nms S n
  ·exact bW (decide_eq_true h1) ⟨_,rfl,_,_,rfl,i1,rfl,[.str "known",.str z],rfl,few (by simp),known (.inl h1)⟩
  ·refine a9 (decide_eq_false h1) ⟨_,rfl,_,_,.d,.d,rfl,_,rfl,?_⟩;rcases hn with rfl | ⟨t,rfl⟩
   ·refine bW (eqS _) ⟨_,rfl,_,_,rfl,i1,rfl,_,rfl,A.m,_,.inr "past",_,rfl,.inl N2.hm,rfl,rfl,z,S.es,rfl,.m (N2.c .p).1,_,rfl,?_⟩
    by_cases h2:z∈S.es
    ·exact bW (decide_eq_true h2) ⟨_,rfl,_,_,rfl,i1,rfl,[.str "known",.str z],rfl,few (by simp),known (.inr ⟨rfl,h2⟩)⟩
    ·exact a9 (decide_eq_false h2) (last rfl rfl rfl rfl (λ kk=>xW rfl dne.1 dne.2.1 dne.2.2 kk) λ h=>h.elim h1 λ h=>h2 h.2)
   ·exact a9 (neS (sk t).2.1) (fh (last rfl rfl rfl rfl (λ kk=>xW rfl dne.1 dne.2.1 dne.2.2 kk) λ h=>h.elim h1 λ h=>nomatch h.1))
 | none =>
  cases D with
  | fin n z =>
   have e:out (.fin n z) S=o4 (.fin n z) S:=by unfold out;rw[u1];rfl
   rw[e] at k;exact⟨_,rfl,_,rfl,_,.k (k:=.inr "end") hb2,_,rfl,a9 (by decide +kernel) (agY N2 hl hm hv rfl rfl rfl k)⟩
  | _=>cases hmk
structure Fm(M:MH)(σ ρ:Rm)(M':MH)(σ' ρ':Rm):Prop where
 fR:∀ q o,M q=some o->ρ' q=ρ q
 fB:∀ q o r,M q=some o->ρ q=some r->M' q=some o
 fS:∀ q o,M q=some o->σ q=none->M' q=some o/\σ' q=none
 th:∀ q o,M q=some o->∃ o',M' q=some o'
theorem Fm.trans{M M1 M2:MH}{σ ρ σ1 ρ1 σ2 ρ2:Rm}(h:Fm M σ ρ M1 σ1 ρ1)(k:Fm M1 σ1 ρ1 M2 σ2 ρ2):Fm M σ ρ M2 σ2 ρ2:=
 ⟨λ q o e=>let ⟨o',e'⟩:=h.th q o e; (k.fR q o' e').trans (h.fR q o e),λ q o r e er=>k.fB q o r (h.fB q o r e er) ((h.fR q o e).trans er),λ q o e es=>k.fS q o (h.fS q o e es).1 (h.fS q o e es).2,λ q o e=>let ⟨o',e'⟩:=h.th q o e;k.th q o' e'⟩
theorem Fm.upd{M:MH}{σ ρ:Rm}{p:Addr}{c:Ro}{o:MO}(hs:σ p=some c)(hr:ρ p=none):Fm M σ ρ (bC M p o) σ ρ:=
 ⟨λ _ _ _=>rfl,λ q u r e er=>by rw[ar (Ne.symm (cno hr er))];exact e,λ q u e es=>⟨by rw[ar (cno es hs)];exact e,es⟩,λ q u e=>by
  by_cases h:q=p
  ·exact⟨o,by rw[h];exact ao⟩
  ·exact⟨u,by rw[ar h];exact e⟩⟩
structure Mc(M:MH)(σ ρ:Rm)(A:Ams)(S:Bs)(L:List (Str×Wi)):Prop where
 c:∀ {c p o},l9 A S L c p o->M p=some o/\σ p=some c/\ρ p=none
section
variable {M M':MH}{σ ρ:Rm}{A:Ams}{S S':Bs}{L:List (Str×Wi)}
theorem Mo.mc(N:Mo M σ ρ A S L):Mc M σ ρ A S L:=⟨N.c⟩
theorem Mc.upd(N:Mc M σ ρ A S L)(c0:Ro){p0:Addr}{o0:MO}(hp:σ p0=some c0)(rp:ρ p0=none)(h0:∀ c p o,l9 A S' L c p o->c=c0->p=p0/\o=o0)(h1:∀ c p o,l9 A S' L c p o->c≠c0->l9 A S L c p o):Mc (bC M p0 o0) σ ρ A S' L:=⟨λ {c p o} h=>by
 by_cases e:c=c0
 ·obtain⟨rfl,rfl⟩:=h0 c p o h e;exact⟨ao,by rw[e];exact hp,rp⟩
 ·obtain⟨g1,g2,g3⟩:=N.c (h1 c p o h e);exact⟨by rw[ar (cne g2 hp e)];exact g1,g2,g3⟩⟩
theorem Mc.setM(N:Mc M σ ρ A S L)(S':Bs)(he:S'.es=S.es)(hd:S'.dn=S.dn):Mc (bC M A.m (.dic (mkv S' A))) σ ρ A S' L:=N.upd .b (N.c .m).2.1 (N.c .m).2.2 (λ c p o h e=>by cases h<;>first | exact⟨rfl,rfl⟩ | cases e) (λ c p o h n=>by
 cases h with
 | m=>exact absurd rfl n
 | D=>exact .D
 | p=>rw[he];exact .p
 | l=>rw[hd];exact .l
 | a x h=>exact .a x h)
theorem Mc.amF(N:Mc M σ ρ A S L)(es:List Str):Mc (bC M A.p (.lst (cV es))) σ ρ A {S with es:=es} L:=N.upd .e (N.c .p).2.1 (N.c .p).2.2 (λ c p o h e=>by cases h<;>first | exact⟨rfl,rfl⟩ | cases e) (λ c p o h n=>by cases h<;>first | exact absurd rfl n | (constructor;done) | (constructor;assumption))
theorem Mc.amy(N:Mc M σ ρ A S L)(dn:List PyData):Mc (bC M A.l (.lst (dn.map W.d))) σ ρ A {S with dn:=dn} L:=N.upd .d (N.c .l).2.1 (N.c .l).2.2 (λ c p o h e=>by cases h<;>first | exact⟨rfl,rfl⟩ | cases e) (λ c p o h n=>by cases h<;>first | exact absurd rfl n | (constructor;done) | (constructor;assumption))
theorem Mc.akD(N:Mc M σ ρ A S L){z:Str}{y x:Wi}(ha:M y.a=none)(f:∀ q o,q≠A.D->M q=some o->M' q=some o)(hD:M' A.D=some (.dic (kvT (L++[(z,y)]))))(h1:M' y.a=some (.dic (qL (wr y)))):Mc M' (λ q=>if q=y.a then some (.a z) else σ q) (λ q=>if q=y.a then none else ρ q) A {S with T:=S.T++[(z,x)]} (L++[(z,y)]):=⟨λ {c p o} h=>by
 have old:∀ {c q o},l9 A S L c q o->c ≠ .w->M' q=some o/\(if q=y.a then some (.a z) else σ q)=some c/\(if q=y.a then none else ρ q)=none:=λ {c q o} h n=>by obtain⟨g1,g2,g3⟩:=N.c h;have na:=aT g1 ha;exact⟨f _ _ (cne g2 (N.c .D).2.1 n) g1,(if_neg na).trans g2,(if_neg na).trans g3⟩
 cases h with
 | m=>exact old .m nofun
 | D =>
  have na:=aT (N.c .D).1 ha;exact⟨hD,(if_neg na).trans (N.c .D).2.1,(if_neg na).trans (N.c .D).2.2⟩
 | p=>exact old .p nofun
 | l=>exact old .l nofun
 | a u h =>
  rcases List.mem_append.mp h with h | h
  ·exact old (.a u h) nofun
  ·rw[List.mem_singleton.mp h];exact⟨h1,if_pos rfl,if_pos rfl⟩⟩
end
abbrev nw(kd:Str)(c p s h:Int)(a l:Addr):Wi:=⟨.str kd,.int c,.int p,.int 1,[.tuple [.int s,.int h]],a,l⟩
inductive nA(ws:List W) (M:MH) (Q:QD):Prop
 | mk (σ ρ:Rm) (A:Ams) (S:Bs) (L:List (Str×Wi)) (z kd:Str) (c p s h:Int) (a0 l0:Addr) (z0:ws=[.m A.m,.d (deD (.fq z kd c p s h))]) (N:Mc M σ ρ A S L) (nd:((L++[(z,nw kd c p s h 0 0)]).map (·.1)).Nodup) (nz:z ∉ L.map (·.1)) (r8:S.rs.length<=900) (lL:L.length<=900) (q:∀ σ' ρ' a M',Mc M' σ' ρ' A {S with rs:=S.rs++[z],T:=S.T++[(z,nw kd c p s h a0 l0)]} (L++[(z,nw kd c p s h a 0)])->Fm M σ ρ M' σ' ρ'->Q (.d .none) M'):nA ws M Q
def dw:SpD:=nA
theorem va:Ln dw 2:=by rintro ws M Q ⟨σ,ρ,A,S,L,z,kd,c,p,s,h,a0,l0,rfl,_⟩;rfl
theorem qX:Rd dw qO ql:=by
 rintro ws M Q ⟨σ,ρ,A,S,L,z,kd,c,p,s,h,a0,l0,rfl,N,nd,nz,r8,lL,k⟩;have sl:=s16;refine⟨_,rfl,_,_,rfl,gp _,rfl,_,rfl,_,_,rfl,zI rfl,rfl,rfl,(by omega),_,_,rfl,_,_,rfl,rfl,?_⟩;refine⟨_,rfl,_,_,.d,.d,rfl,_,rfl,bW (eqS _) ?_⟩;refine⟨_,rfl,A.m,_,.inr "ranked",_,rfl,.inl (N.c .m).1,rfl,rfl,_,rfl,[.str z],rfl,few (by simp),_,_,.d,.d,(by simp;omega),_,rfl,A.m,_,.inr "ranked",rfl,(N.c .m).1,rfl,(by show 10<sizeLine;omega),?_⟩;rw[show S.rs.map PyData.str++[PyData.str z]=(S.rs++[z]).map PyData.str by simp,show acy (mkv S A) (.inr "ranked") (.d (jo (S.rs++[z])))=mkv {S with rs:=S.rs++[z]} A from rfl];have N1:=N.setM {S with rs:=S.rs++[z]} rfl rfl;have f1:Fm M σ ρ (bC M A.m (.dic (mkv {S with rs:=S.rs++[z]} A))) σ ρ:=Fm.upd (N.c .m).2.1 (N.c .m).2.2;generalize bC M A.m (.dic (mkv {S with rs:=S.rs++[z]} A))=M1 at N1 f1;intro a ha;have hm:=(N1.c .m).1;have hD:=(N1.c .D).1;have ma:=aT hm ha;have Da:=aT hD ha;have mD:A.m≠A.D:=cne (N1.c .m).2.1 (N1.c .D).2.1 nofun;refine⟨_,rfl,_,_,rfl,dN (j:=2) rfl,rfl,_,rfl,_,_,rfl,dN (j:=3) rfl,rfl,_,rfl,_,_,rfl,dN (j:=4) rfl,rfl,ao,[(.inr "kind",.d (.str kd)),(.inr "copies",.d (.int c)),(.inr "keep",.d (.int p)),(.inr "edition",.d (.int 1))],rfl,(by show 4<=15;decide),(by show([.inr "kind",.inr "copies",.inr "keep",.inr "edition"]:List Key).Nodup;decide +kernel),?_⟩;rw[fQ];refine⟨_,rfl,A.m,_,.inr "data",_,rfl,.inl (by rw[ar ma];exact hm),rfl,rfl,_,rfl,A.D,_,.inr z,rfl,(by rw[ar Da];exact hD),rfl,(by simp only[kvT,lm];omega),?_⟩;rw[aaa (y:=nw kd c p s h a 0) nz];have nd':((L++[(z,nw kd c p s h a 0)]).map (·.1)).Nodup:=by rw[List.map_append] at nd ⊢;exact nd
 have lk:lA (kvT (L++[(z,nw kd c p s h a 0)])) (.inr z)=some (.m a):=nG (x:=(z,nw kd c p s h a 0)) nd' (by simp);have hm2:bC (bC M1 a (.dic [(.inr "kind",.d (.str kd)),(.inr "copies",.d (.int c)),(.inr "keep",.d (.int p)),(.inr "edition",.d (.int 1))])) A.D (.dic (kvT (L++[(z,nw kd c p s h a 0)]))) A.m=some (.dic (mkv {S with rs:=S.rs++[z]} A)):=by rw[ar mD,ar ma];exact hm
 have ha2:bC (bC M1 a (.dic [(.inr "kind",.d (.str kd)),(.inr "copies",.d (.int c)),(.inr "keep",.d (.int p)),(.inr "edition",.d (.int 1))])) A.D (.dic (kvT (L++[(z,nw kd c p s h a 0)]))) a=some (.dic [(.inr "kind",.d (.str kd)),(.inr "copies",.d (.int c)),(.inr "keep",.d (.int p)),(.inr "edition",.d (.int 1))]):=by rw[ar Da.symm];exact ao
 refine⟨_,rfl,_,_,rfl,dN (j:=5) rfl,rfl,_,rfl,_,_,rfl,dN (j:=6) rfl,rfl,[.int s,.int h],rfl,few (by simp),[.tuple [.int s,.int h]],rfl,few (by simp),_,rfl,A.m,_,.inr "data",_,rfl,.inl hm2,rfl,rfl,_,rfl,A.D,_,.inr z,_,rfl,.inl ao,rfl,lk,a,_,.inr "editions",rfl,ha2,rfl,(by show 4<sizeLine;omega),?_⟩;refine k _ _ a _ (N1.akD (y:=nw kd c p s h a 0) ha (λ q o nq e=>?_) ?_ ao) (f1.trans ⟨λ q o e=>if_neg (aT e ha),λ q o r e er=>?_,λ q o e es=>⟨?_,(if_neg (aT e ha)).trans es⟩,λ q o e=>?_⟩)
 ·rw[ar (aT e ha),ar nq,ar (aT e ha)];exact e
 ·rw[ar Da];exact ao
 ·rw[ar (aT e ha),ar (Ne.symm (cno (N1.c .D).2.2 er)),ar (aT e ha)];exact e
 ·rw[ar (aT e ha),ar (cno es (N1.c .D).2.1),ar (aT e ha)];exact e
 ·by_cases h:q=A.D
  ·exact⟨_,by rw[h,ar Da];exact ao⟩
  ·exact⟨o,by rw[ar (aT e ha),ar h,ar (aT e ha)];exact e⟩
def kpS(z:Str):W->Option PyData
 | .d (.str y)=>if y=z then none else some (.str y)
 | _=>none
theorem abM(z:Str):∀ (zs:List Str),((zs.map PyData.str).map W.d).filterMap (kpS z)=(zs.filter λ y=>decide (y≠z)).map PyData.str
 | []=>rfl
 | y::zs=>by
  show((W.d (.str y))::(zs.map PyData.str).map W.d).filterMap (kpS z)=_
  by_cases h:y=z
  ·rw[List.filterMap_cons_none (show kpS z (.d (.str y))=none from if_pos h),abM z zs,List.filter_cons_of_neg (by simp[h])]
  ·rw[List.filterMap_cons_some (show kpS z (.d (.str y))=some (.str y) from if_neg h),abM z zs,List.filter_cons_of_pos (by simp[h])];rfl
theorem rE{M:MH}{Q:QD}{σ ρ:Rm}{A:Ams}{S:Bs}{L:List (Str×Wi)}{D:De}{y:Str}{τ:DS}(N:Mc M σ ρ A S L)(dl:S.dn.length<=900)(h0:τ[0]? =some (some (.m A.m)))(h1:τ[1]? =some (some (.d (deD D))))(h2:τ[2]? =some (some (.d (.str y))))(k:∀ M',Mc M' σ ρ A {S with dn:=S.dn++[lgD y D]} L->Fm M σ ρ M' σ ρ->Q (.d .none) M') :
  (eL (gx (bf (aj 0) (dS "log")) (eo (ah (aj 2) (ah (aj 1) aI))))) (EdQ Q) τ M:=by
 have sl:=s16;refine⟨_,h0,A.m,_,.inr "log",_,rfl,.inl (N.c .m).1,rfl,rfl,A.l,_,rfl,(N.c .l).1,_,h2,_,h1,[.str y,deD D],rfl,few (by simp),_,(N.c .l).1,(by simp only[lm];omega),?_⟩;rw[show S.dn.map W.d++[W.d (PyData.tuple [PyData.str y,deD D])]=(S.dn++[lgD y D]).map W.d by simp];exact k _ (N.amy _) (Fm.upd (N.c .l).2.1 (N.c .l).2.2)
inductive uK(ws:List W) (M:MH) (Q:QD):Prop
 | mk (σ ρ:Rm) (A:Ams) (S:Bs) (L:List (Str×Wi)) (D:De) (y:Str) (S':Bs) (z0:ws=[.m A.m,.d (deD D),.d (.str y)]) (N:Mo M σ ρ A S L) (st:Stp y S D S') (hl:Rl S) (hv:Dv D) (rn:S.rs.Nodup) (r8:S.rs.length<=8) (dl:S.dn.length<=900) (el:S.es.length<=900) (lL:L.length<=900) (hw:∀ z kd c p s h,D=.fq z kd c p s h->z ∉ S.rs/\z ∉ S.es) (q:∀ σ' ρ' M' L',Mo M' σ' ρ' A S' L'->L'.length<=L.length+1->Fm M σ ρ M' σ' ρ'->Q (.d .none) M'):uK ws M Q
def dv:SpD:=uK
theorem yY:Ln dv 3:=by rintro ws M Q ⟨σ,ρ,A,S,L,D,y,S',rfl,_⟩;rfl
theorem acm(S:Bs)(A:Ams)(t:Sr)(rs:List Rw):acy (mkv S A) (.inr t.nm) (.d (.list (rwD rs)))=mkv {S with R:=upR S.R t rs} A:=by cases t<;>rfl
theorem amH{M:MH}:acw M (.d (.tuple [.str "group",.str "store",.str "door",.str "rule"])) (cV ["group", "store", "door", "rule"]):=.t
theorem alE(t:Sr):t.nm∈(["group", "store", "door", "rule"]:List Str):=by cases t<;>decide +kernel
theorem alk:decide (("wish" : Str)∈(["group", "store", "door", "rule"]:List Str))=false:=by decide +kernel
theorem aiB:decide (("end" : Str)∈(["group", "store", "door", "rule"]:List Str))=false:=by decide +kernel
theorem w6:Rd dv (xH dw) yy:=by
 rintro ws M Q ⟨σ,ρ,A,S,L,D,y,S',rfl,N,st,hl,hv,rn,r8,dl,el,lL,hw,k⟩;have sl:=s16;have hm:=N.hm;refine⟨_,rfl,_,_,rfl,gp _,rfl,?_⟩;refine⟨_,rfl,_,rfl,few (by simp),D.nm,_,rfl,amH,_,rfl,?_⟩;cases st with
 | row t r =>
  have hlt:=hl.l t;refine bW (decide_eq_true (alE t)) ?_;refine⟨_,rfl,_,rfl,A.m,_,.inr t.nm,_,rfl,.inl hm,rfl,xj S A t,_,rfl,_,rfl,_,uw _ _,rfl,_,r.ds,rfl,.t,[.tuple r.ds],rfl,few (by simp),_,_,.d,.d,(by simp;omega),_,rfl,_,rfl,A.m,_,.inr t.nm,rfl,hm,rfl,(by show 10<sizeLine;omega),?_⟩;rw[show rwD (S.R t)++[PyData.tuple r.ds]=rwD (S.R t++[r]) by simp,acm];exact rE (D:=.row t r) (N.mc.setM {S with R:=upR S.R t (S.R t++[r])} rfl rfl) dl rfl rfl rfl λ M' N' f=>k _ _ M' L ⟨N'.c,N.tn,N.rl,N.old⟩ (by omega) ((Fm.upd (N.c .m).2.1 (N.c .m).2.2).trans f)
 | fq z kd c p s h a0 l0 =>
  obtain⟨n1,n2⟩:=hw z kd c p s h rfl;have nz:z ∉ L.map (·.1):=λ hz=>by obtain⟨u,hu,rfl⟩:=List.mem_map.mp hz;exact(N.old u hu).elim n1 n2
  have nd:∀ a,((L++[(z,nw kd c p s h a 0)]).map (·.1)).Nodup:=λ a=>by rw[List.map_append];exact List.nodup_append.mpr ⟨N.tn,by simp,λ b h1 b' h2 e=>nz (by rw[List.mem_singleton.mp (show b'∈[z] from h2)] at e;exact e ▸ h1)⟩
  refine a9 alk ⟨_,rfl,_,_,.d,.d,rfl,_,rfl,a9 (neS (by simp only[De.nm];decide +kernel)) ⟨_,rfl,_,_,.d,.d,rfl,_,rfl,a9 (neS (by simp only[De.nm];decide +kernel)) ⟨_,rfl,_,_,.d,.d,rfl,_,rfl,a9 (neS (by simp only[De.nm];decide +kernel)) (fh ⟨_,rfl,_,_,.d,.d,rfl,_,rfl,a9 (neS (by simp only[De.nm];decide +kernel)) ⟨_,rfl,_,rfl,.mk σ ρ A S L z kd c p s h a0 l0 rfl N.mc (nd 0) nz (by omega) lL λ σ' ρ' a M' N' f=>?_⟩⟩)⟩⟩⟩;refine rE (D:=.fq z kd c p s h) N' dl rfl rfl rfl λ M2 N2 f2=>k _ _ M2 _ ⟨N2.c,nd a,λ x hx=>?_,λ u hu=>?_⟩ (by simp) (f.trans f2)
  ·rcases List.mem_append.mp hx with hx | hx
   ·obtain⟨u,hu,e⟩:=N.rl x hx;exact⟨u,List.mem_append_left _ hu,e⟩
   ·rw[List.mem_singleton.mp hx];exact⟨_,List.mem_append_right _ (List.mem_singleton.mpr rfl),rfl,rfl⟩
  ·rcases List.mem_append.mp hu with hu | hu
   ·exact(N.old u hu).imp (List.mem_append_left _) id
   ·rw[List.mem_singleton.mp hu];exact .inl (List.mem_append_right _ (List.mem_singleton.mpr rfl))
 | finW z =>
  refine a9 aiB ⟨_,rfl,_,_,.d,.d,rfl,_,rfl,a9 (neS (by simp only[De.nm];decide +kernel)) ⟨_,rfl,_,_,.d,.d,rfl,_,rfl,a9 (neS (by simp only[De.nm];decide +kernel)) ⟨_,rfl,_,_,.d,.d,rfl,_,rfl,bW (eqS _) ⟨_,rfl,_,_,rfl,zI rfl,rfl,_,_,.d,.d,rfl,_,rfl,bW (eqS _) ?_⟩⟩⟩⟩;refine⟨_,rfl,A.m,_,.inr "ranked",_,rfl,.inl hm,rfl,rfl,_,rfl,?_⟩;refine nR (kpS z) (by simp only[lm];omega) (λ w hw' P' hP=>?_) ?_
  ·obtain⟨i,hi⟩:=List.mem_iff_getElem?.mp hw';rw[List.getElem?_map,List.getElem?_map] at hi;obtain⟨d,hd,rfl⟩:=Option.map_eq_some_iff.mp hi;obtain⟨v,hv',rfl⟩:=Option.map_eq_some_iff.mp hd;refine⟨_,rfl,_,rfl,_,_,rfl,dN (j:=2) rfl,rfl,_,_,.d,.d,rfl,_,rfl,?_⟩;rw[cT]
   by_cases h:v=z
   ·rw[show kpS z (.d (.str v))=none from if_pos h] at hP;exact a9 (by rw[decide_eq_true h];rfl) ⟨rfl,hP⟩
   ·rw[show kpS z (.d (.str v))=some (.str v) from if_neg h] at hP;exact bW (by rw[decide_eq_false h];rfl) ⟨_,rfl,_,rfl,rfl,hP⟩
  ·rw[abM,show(S.rs.filter λ y=>decide (y≠z))=S.rs.erase z by rw[rn.erase_eq_filter];exact List.filter_congr λ y _=>by by_cases h:y=z<;>simp[h]];refine⟨_,rfl,A.m,_,.inr "ranked",rfl,hm,rfl,(by show 10<sizeLine;omega),?_⟩;have N1:=N.mc.setM {S with rs:=S.rs.erase z,T:=S.T.filter (λ u=>decide (u.1≠z))} rfl rfl;rw[show acy (mkv S A) (.inr "ranked") (.d (jo (S.rs.erase z)))=mkv {S with rs:=S.rs.erase z,T:=S.T.filter (λ u=>decide (u.1≠z))} A from rfl];have f1:Fm M σ ρ (bC M A.m (.dic (mkv {S with rs:=S.rs.erase z,T:=S.T.filter (λ u=>decide (u.1≠z))} A))) σ ρ:=Fm.upd (N.c .m).2.1 (N.c .m).2.2;generalize bC M A.m (.dic (mkv {S with rs:=S.rs.erase z,T:=S.T.filter (λ u=>decide (u.1≠z))} A))=M1 at N1 f1;refine⟨_,rfl,A.m,_,.inr "past",_,rfl,.inl (N1.c .m).1,rfl,rfl,A.p,_,rfl,(N1.c .p).1,_,rfl,_,_,rfl,dN (j:=2) rfl,rfl,_,(N1.c .p).1,(by simp only[cV,lm];omega),?_⟩;rw[rm];refine rE (D:=.fin .w z) (N1.amF (S.es++[z])) dl rfl rfl rfl λ M2 N2 f2=>k _ _ M2 L ⟨N2.c,N.tn,λ x hx=>N.rl x (List.mem_filter.mp hx).1,λ u hu=>?_⟩ (by omega) (f1.trans ((Fm.upd (N1.c .p).2.1 (N1.c .p).2.2).trans f2));rcases N.old u hu with h | h
   ·by_cases e:u.1=z
    ·exact .inr (List.mem_append_right _ (List.mem_singleton.mpr e))
    ·exact .inl ((List.mem_erase_of_ne e).mpr h)
   ·exact .inr (List.mem_append_left _ h)
 | fin t z p =>
  have hlt:=hl.l t;refine a9 aiB ⟨_,rfl,_,_,.d,.d,rfl,_,rfl,a9 (neS (by simp only[De.nm];decide +kernel)) ⟨_,rfl,_,_,.d,.d,rfl,_,rfl,a9 (neS (by simp only[De.nm];decide +kernel)) ⟨_,rfl,_,_,.d,.d,rfl,_,rfl,bW (eqS _) ⟨_,rfl,_,_,rfl,zI rfl,rfl,_,_,.d,.d,rfl,_,rfl,a9 (neS (sk t).2.1) ⟨_,rfl,_,_,.d,.d,rfl,_,rfl,bW (eqS _) ?_⟩⟩⟩⟩⟩;refine⟨_,rfl,_,rfl,_,_,rfl,zI rfl,rfl,A.m,_,.inr t.nm,_,rfl,.inl hm,rfl,xj S A t,_,rfl,?_⟩;refine nR (kpW z) (by simp only[lm];omega) (λ w hw' P' hP=>?_) ?_
  ·obtain⟨i,hi⟩:=List.mem_iff_getElem?.mp hw';obtain⟨r,hr,rfl⟩:=rw_at hi;refine⟨_,rfl,_,_,rfl,ahl r,rfl,_,rfl,_,_,rfl,dN (j:=2) rfl,rfl,_,_,.d,.d,rfl,_,rfl,?_⟩;rw[cT]
   by_cases h:r.z=z
   ·rw[show kpW z (.d (.tuple r.ds))=none from if_pos h] at hP;exact a9 (by rw[decide_eq_true h];rfl) ⟨rfl,hP⟩
   ·rw[show kpW z (.d (.tuple r.ds))=some (.tuple r.ds) from if_neg h] at hP;exact bW (by rw[decide_eq_false h];rfl) ⟨_,rfl,_,rfl,rfl,hP⟩
  ·rw[aeX];refine⟨_,rfl,_,rfl,_,_,rfl,zI rfl,rfl,A.m,_,.inr t.nm,rfl,hm,rfl,(by show 10<sizeLine;omega),?_⟩;rw[acm];refine rE (D:=.fin (.r t) z) (N.mc.setM {S with R:=upR S.R t (kpR z (S.R t)),x:=upR S.x t p} rfl rfl) dl rfl rfl rfl λ M' N' f=>k _ _ M' L ⟨N'.c,N.tn,N.rl,N.old⟩ (by omega) ((Fm.upd (N.c .m).2.1 (N.c .m).2.2).trans f)
abbrev m8:List Str:=["m", "n", "a", "mm", "zeta", "wish", "b", "qrstuvwx"]
theorem ajN:∀ a<8,∀ k<8,(∀ z∈(m8.drop a++m8.take a).take (k+1),wd z=true)/\((m8.drop a++m8.take a).take (k+1)).Nodup/\1<=((m8.drop a++m8.take a).take (k+1)).length/\((m8.drop a++m8.take a).take (k+1)).length<=8/\(m8.drop a++m8.take a).length=8:=by decide +kernel
inductive jL(ws:List W) (M:MH) (Q:QD):Prop
 | mk (p:Addr) (z0:ws=[.m p]) (b:Bag M p) (q:∀ ms M',Nms ms->Bag M' p->(∀ q,q≠p->M' q=M q)->Q (.d (jo ms)) M'):jL ws M Q
def cC:SpD:=jL
theorem pj:Ln cC 1:=by rintro ws M Q ⟨p,rfl,_⟩;rfl
theorem mS:Rd cC (lM aR) lD:=by
 rintro ws M Q ⟨p,rfl,b,k⟩;have sl:=s16;refine⟨m8.map PyData.str,rfl,few (by simp),_,rfl,p,8,rfl,b,by decide,by decide,λ a M1 a0 a1 b1 f1=>?_⟩;obtain⟨a,rfl⟩:=Int.eq_ofNat_of_zero_le a0;have ha:a<8:=by omega
 refine⟨_,rfl,_,rfl,_,rfl,_,rfl,rfl,_,rfl,_,rfl,_,rfl,_,rfl,rfl,_,_,.d,.d,?_,_,rfl,p,8,rfl,b1,by decide,by decide,λ m M2 m0 m1 b2 f2=>.inl ⟨_,_,rfl,rfl,_,rfl,_,rfl,rfl,?_⟩⟩
 ·rw[xN (by omega),iS (by show a<=8;omega)];simp;omega
 obtain⟨m,rfl⟩:=Int.eq_ofNat_of_zero_le m0;obtain⟨g1,g2,g3,g4,g5⟩:=ajN a ha m (by omega);have e:D.cutD (D.cutD (m8.map PyData.str) (some ((a:Nat):Int)) none++D.cutD (m8.map PyData.str) none (some ((a:Nat):Int))) none (some (1+((m:Nat):Int)))=((m8.drop a++m8.take a).take (m+1)).map PyData.str:=by rw[xN (by omega),iS (by show a<=8;omega),show(1+((m:Nat):Int))=((m+1:Nat):Int) by omega];rw[show(m8.map PyData.str).drop ((a:Nat):Int).toNat++(m8.map PyData.str).take a=(m8.drop a++m8.take a).map PyData.str by rw[List.map_append,List.map_drop,List.map_take];rfl];rw[iS (by rw[lm,g5];omega),List.map_take]
 rw[e];exact k _ M2 ⟨g1,g2,g3,g4⟩ b2 λ q n=>(f2 q n).trans (f1 q n)
abbrev L6:List Str:=["a", "b", "c", "d", "e", "f"]
theorem iJ:∀ z∈L6,wd z=true/\z.length=1:=by decide +kernel
theorem ajV{M:MH}{v:Int}(v0:0<=v)(v1:v<6):∃ z∈L6,ixW M (.d (.str "abcdef")) v=some (.d (.str z)):=by
 obtain⟨n,rfl⟩:=Int.eq_ofNat_of_zero_le v0;have hn:n=0\/n=1\/n=2\/n=3\/n=4\/n=5:=by omega
 rcases hn with rfl | rfl | rfl | rfl | rfl | rfl
 ·exact⟨"a",by decide +kernel,rfl⟩
 ·exact⟨"b",by decide +kernel,rfl⟩
 ·exact⟨"c",by decide +kernel,rfl⟩
 ·exact⟨"d",by decide +kernel,rfl⟩
 ·exact⟨"e",by decide +kernel,rfl⟩
 ·exact⟨"f",by decide +kernel,rfl⟩
theorem agn{M:MH}{zs:List Str}{v:Int}(v0:0<=v)(v1:v<(zs.length:Nat)):∃ z∈zs,ixW M (.d (jo zs)) v=some (.d (.str z)):=by
 obtain⟨n,rfl⟩:=Int.eq_ofNat_of_zero_le v0;have hn:n<zs.length:=by omega
 refine⟨zs[n],List.getElem_mem hn,?_⟩;simp only[ixW];rw[vF (v:=.str zs[n]) (by simp[hn])];rfl
inductive tF(ws:List W) (M:MH) (Q:QD):Prop
 | mk (σ ρ:Rm) (A:Ams) (S:Bs) (L:List (Str×Wi)) (p:Addr) (n:Sn) (z0:ws=[.m p,.m A.m,.d (.str n.nm)]) (b:Bag M p) (N:Mo M σ ρ A S L) (hp:σ p=none) (hl:∀ t,(S.R t).length<=900) (r8:(nms S n).length<=900) (h6:∀ z∈nms S n,z∈L6) (q:∀ z M',z∈L6->Bag M' p->(∀ q,q≠p->M' q=M q)->Q (.d (.str z)) M'):tF ws M Q
def dr:SpD:=tF
theorem zb:Ln dr 3:=by rintro ws M Q ⟨σ,ρ,A,S,L,p,n,rfl,_⟩;rfl
theorem vW:Rd dr (yz bp aR) xQ:=by
 rintro ws M Q ⟨σ,ρ,A,S,L,p,n,rfl,b,N,hp,hl,r8,h6,k⟩;refine⟨_,rfl,_,rfl,σ,ρ,A,S,L,n,rfl,N,hl,_,rfl,_,rfl,few (by simp),_,_,.d,.d,mB (k:=1) (by decide) (wx λ z hz=>(iJ z (h6 z hz)).1) rfl,_,rfl,?_⟩;have last:∀ {τ:DS} {M1:MH},τ[0]? =some (some (.m p))->Bag M1 p->(∀ q,q≠p->M1 q=M q)->(cF (dOp bL (dS "abcdef") (bH aR (ah (aj 0) (ah (dI 6) aI))))) (EdQ Q) τ M1:=λ {τ M1} h0 b1 f1=>⟨_,h0,p,6,rfl,b1,by decide,by decide,λ v M2 v0 v1 b2 f2=>by obtain⟨z,hz,e⟩:=ajV (M:=M2) v0 v1;exact⟨v,_,rfl,e,rfl,k z M2 hz b2 λ q n=>(f2 q n).trans (f1 q n)⟩⟩
 cases e:nms S n with
 | nil=>exact a9 (by show(!PyData.eqv (.list []) (.list []))=false;rw[nil_eq];rfl) (fh (last rfl b λ _ _=>rfl))
 | cons z0 zs =>
  refine bW (by show(!PyData.eqv (.list (.str z0::_)) (.list []))=true;rw[aeU];rfl) ⟨_,rfl,p,5,rfl,b,by decide,by decide,λ v M1 v0 v1 b1 f1=>⟨_,_,rfl,rfl,_,rfl,lY (λ _=>?_) (λ _=>last rfl b1 f1)⟩⟩;rw[e] at h6 r8;refine⟨_,rfl,_,rfl,_,rfl,_,_,rfl,rfl,rfl,p,_,rfl,b1,(by simp),(by simp at r8 ⊢;omega),λ u M2 u0 u1 b2 f2=>?_⟩;obtain⟨z,hz,ez⟩:=agn (M:=M2) (zs:=z0::zs) u0 (by simpa using u1);exact⟨u,_,rfl,ez,rfl,k z M2 (h6 z hz) b2 λ q n=>(f2 q n).trans (f1 q n)⟩
def Rg(t:Sr)(r:Rw):Prop:=r.z∈L6/\r.v∈L6/\r.w=.str r.v/\((t=.s/\r.r=[])\/(t=.o/\r.r=[])\/(t=.u/\∃ a c p:Int,r.r=[.int a,.int c,.int p]/\1<=a/\a<=20/\0<=c/\c<=6/\0<=p/\p<=5/\leK c p=true))
def Dg:De->Prop
 | .row t r=>Rg t r
 | .fq z kd c p s h=>z∈L6/\wd kd=true/\(0<=c/\c<=6)/\(0<=p/\p<=5)/\(0<=s/\s<=2)/\(1<=h/\h<=3)/\leK c p=true
 | .fin n z=>z∈L6/\(n=.w\/n=.r .s\/n=.r .o\/n=.r .u)
theorem ame(i:Int):Fl (.int i):=.inr (.inl ⟨i,rfl⟩)
theorem wR{i lo hi:Int}(h1:lo<=i)(h2:i<=hi):btw i lo hi=true:=by unfold btw;rw[decide_eq_true h1,decide_eq_true h2];rfl
theorem Dg.ok{D:De}(h:Dg D):Dok D:=by
 cases D with
 | row t r =>
  obtain⟨z,w,rr⟩:=r;obtain⟨hz,hv,hw,h⟩:=h;have wz:=(iJ _ hz).1;have wv:=(iJ _ hv).1;generalize hvv:Rw.v ⟨z,w,rr⟩=v at hv hw wv;have hw:w=.str v:=hw;have wz:wd z=true:=wz;subst hw;refine⟨.inr (by rw[hvv]),?_⟩;rcases h with ⟨rfl,h⟩ | ⟨rfl,h⟩ | ⟨rfl,a,c,p,h,a0,a1,c0,c1,p0,p1,lk⟩
  ·have h:rr=[]:=h;subst h;refine⟨_,.tail _ (.tail _ (.tail _ (.tail _ (.tail _ (.tail _ (.head _)))))),rfl,rfl,λ d hd=>?_,?_⟩
   ·simp only[De.as,Rw.ds,List.mem_cons,List.not_mem_nil,or_false] at hd;rcases hd with rfl | rfl
    ·exact ll wz
    ·exact ll wv
   ·show((wd z&&(wd v&&true))&&true)=true;rw[wz,wv];rfl
  ·have h:rr=[]:=h;subst h;refine⟨_,.tail _ (.tail _ (.tail _ (.tail _ (.tail _ (.tail _ (.tail _ (.head _))))))),rfl,rfl,λ d hd=>?_,?_⟩
   ·simp only[De.as,Rw.ds,List.mem_cons,List.not_mem_nil,or_false] at hd;rcases hd with rfl | rfl
    ·exact ll wz
    ·exact ll wv
   ·show((wd z&&(wd v&&true))&&true)=true;rw[wz,wv];rfl
  ·have h:rr=[.int a,.int c,.int p]:=h;subst h;refine⟨_,.tail _ (.tail _ (.tail _ (.tail _ (.tail _ (.tail _ (.tail _ (.tail _ (.head _)))))))),rfl,rfl,λ d hd=>?_,?_⟩
   ·simp only[De.as,Rw.ds,List.mem_cons,List.not_mem_nil,or_false] at hd;rcases hd with rfl | rfl | rfl | rfl | rfl
    ·exact ll wz
    ·exact ll wv
    all_goals exact ame _
   ·show((wd z&&(wd v&&(btw a 1 20&&(btw c 0 6&&(btw p 0 5&&true)))))&&(false || leK c p))=true;rw[wz,wv,wR a0 a1,wR c0 c1,wR p0 p1,lk];rfl
 | fq z kd c p s h' =>
  obtain⟨hz,wk',⟨c0,c1⟩,⟨p0,p1⟩,⟨s0,s1⟩,⟨h0,h1⟩,lk⟩:=h;have wz:=(iJ _ hz).1;refine⟨trivial,_,.tail _ (.head _),rfl,rfl,λ d hd=>?_,?_⟩
  ·simp only[De.as,List.mem_cons,List.not_mem_nil,or_false] at hd;rcases hd with rfl | rfl | rfl | rfl | rfl | rfl
   ·exact ll wz
   ·exact ll wk'
   all_goals exact ame _
  ·show((wd z&&(wd kd&&(btw c 0 6&&(btw p 0 5&&(btw s 0 2&&(btw h' 1 3&&true))))))&&(false || leK c p))=true;rw[wz,wk',wR c0 c1,wR p0 p1,wR s0 s1,wR h0 h1,lk];rfl
 | fin n z =>
  obtain⟨hz,hn⟩:=h;have wz:=(iJ _ hz).1;refine⟨hn,_,.tail _ (.tail _ (.tail _ (.tail _ (.tail _ (.tail _ (.tail _ (.tail _ (.tail _ (.tail _ (.tail _ (.head _)))))))))) ),rfl,rfl,λ d hd=>?_,?_⟩
  ·simp only[De.as,List.mem_cons,List.not_mem_nil,or_false] at hd;rcases hd with rfl | rfl
   ·rcases hn with rfl | rfl | rfl | rfl<;>exact ll (by decide +kernel)
   ·exact ll wz
  ·rcases hn with rfl | rfl | rfl | rfl<;>
   ·show((true&&(wd z&&true))&&true)=true;rw[wz];rfl
inductive sU(ws:List W) (M:MH) (Q:QD):Prop
 | mk (σ ρ:Rm) (A:Ams) (S:Bs) (L:List (Str×Wi)) (p:Addr) (z0:ws=[.m p,.m A.m]) (b:Bag M p) (N:Mo M σ ρ A S L) (hp:σ p=none) (hl:∀ t,(S.R t).length<=900) (r8:S.rs.length<=900) (h6:∀ n,n ≠ .m->∀ z∈nms S n,z∈L6) (q:∀ D M',Dg D->Bag M' p->(∀ q,q≠p->M' q=M q)->Q (.d (deD D)) M'):sU ws M Q
def fc:SpD:=sU
theorem yI:Ln fc 2:=by rintro ws M Q ⟨σ,ρ,A,S,L,p,rfl,_⟩;rfl
theorem wF:Rd fc (yb aR dr) xJ:=by
 rintro ws M Q ⟨σ,ρ,A,S,L,p,rfl,b,N,hp,hl,r8,h6,k⟩;have hnl:∀ n,n ≠ .m->(nms S n).length<=900:=λ n hn=>by
  cases n with
  | m=>exact absurd rfl hn
  | w=>exact r8
  | r t=>show((S.R t).map (·.z)).length<=900;rw[lm];exact hl t
 have Nk:∀ {M'},(∀ q,q≠p->M' q=M q)->Mo M' σ ρ A S L:=λ {M'} f=>N.same λ q r e=>f q (λ z=>by rw[z,hp] at e;cases e);refine⟨_,rfl,p,9,rfl,b,by decide,by decide,λ w M1 w0 w1 b1 f1=>?_⟩;refine⟨_,rfl,_,_,rfl,rfl,_,rfl,lY (λ hw=>?_) (λ hw=>?_)⟩
 ·have hw4:w<4:=of_decide_eq_true hw;obtain⟨i,rfl⟩:=Int.eq_ofNat_of_zero_le w0;obtain⟨n,hn,en⟩:∃ n:Sn,(n=.w\/n=.r .s\/n=.r .o\/n=.r .u)/\ixW M1 (.d (.list [.str "wish",.str "store",.str "door",.str "rule"])) (i:Nat)=some (.d (.str n.nm)):=by
   have hi:i=0\/i=1\/i=2\/i=3:=by omega
   rcases hi with rfl | rfl | rfl | rfl
   ·exact⟨.w,.inl rfl,rfl⟩
   ·exact⟨.r .s,.inr (.inl rfl),rfl⟩
   ·exact⟨.r .o,.inr (.inr (.inl rfl)),rfl⟩
   ·exact⟨.r .u,.inr (.inr (.inr rfl)),rfl⟩
  have nm:n ≠ .m:=λ e=>by subst e;rcases hn with h | h | h | h<;>cases h
  exact⟨_,rfl,few (by simp),_,rfl,_,_,rfl,en,rfl,_,rfl,_,rfl,_,rfl,_,rfl,.mk σ ρ A S L p n rfl b1 (Nk f1) hp hl (hnl n nm) (h6 n nm) λ z M2 hz b2 f2=>⟨[.str "end",.str n.nm,.str z],rfl,few (by simp),k (.fin n z) M2 ⟨hz,hn⟩ b2 λ q n=>(f2 q n).trans (f1 q n)⟩⟩
 ·clear hw;refine⟨_,rfl,p,6,rfl,b1,by decide,by decide,λ v M2 v0 v1 b2 f2=>?_⟩;obtain⟨z,hz,ez⟩:=ajV (M:=M2) v0 v1;have f12:∀ q,q≠p->M2 q=M q:=λ q n=>(f2 q n).trans (f1 q n);refine⟨v,_,rfl,ez,rfl,_,rfl,_,_,.d,.d,rfl,_,rfl,lY (λ _=>?_) (λ _=>⟨_,rfl,_,_,.d,.d,rfl,_,rfl,lY (λ _=>?_) (λ _=>⟨_,rfl,_,_,.d,.d,rfl,_,rfl,lY (λ _=>?_) (λ _=>?_)⟩)⟩)⟩
  ·refine⟨_,rfl,[.str "front",.str "side"],rfl,few (by simp),_,rfl,p,2,rfl,b2,by decide,by decide,λ u M3 u0 u1 b3 f3=>?_⟩;obtain⟨kd,hk,ek⟩:∃ kd:Str,wd kd=true/\ixW M3 (.d (.list [.str "front",.str "side"])) u=some (.d (.str kd)):=by
    obtain⟨i,rfl⟩:=Int.eq_ofNat_of_zero_le u0;have hi:i=0\/i=1:=by omega
    rcases hi with rfl | rfl
    ·exact⟨"front",by decide +kernel,rfl⟩
    ·exact⟨"side",by decide +kernel,rfl⟩
   exact⟨u,_,rfl,ek,rfl,[.str "wish",.str z,.str kd,.int 2,.int 1,.int 0,.int 1],rfl,few (by simp),k (.fq z kd 2 1 0 1) M3 ⟨hz,hk,by decide,by decide,by decide,by decide,by decide⟩ b3 λ q n=>(f3 q n).trans (f12 q n)⟩
  ·exact⟨_,rfl,_,rfl,_,rfl,.mk σ ρ A S L p .w rfl b2 (Nk f12) hp hl (hnl .w nofun) (h6 .w nofun) λ y M3 hy b3 f3=>⟨[.str "store",.str z,.str y],rfl,few (by simp),k (.row .s ⟨z,.str y,[]⟩) M3 ⟨hz,hy,rfl,.inl ⟨rfl,rfl⟩⟩ b3 λ q n=>(f3 q n).trans (f12 q n)⟩⟩
  ·exact⟨_,rfl,_,rfl,_,rfl,.mk σ ρ A S L p (.r .o) rfl b2 (Nk f12) hp hl (hnl (.r .o) nofun) (h6 (.r .o) nofun) λ y M3 hy b3 f3=>⟨_,rfl,p,9,rfl,b3,by decide,by decide,λ u M4 u0 u1 b4 f4=>.inl ⟨_,_,rfl,rfl,[.str "rule",.str z,.str y,.int (1+u),.int 2,.int 1],rfl,few (by simp),k (.row .u ⟨z,.str y,[.int (1+u),.int 2,.int 1]⟩) M4 ⟨hz,hy,rfl,.inr (.inr ⟨rfl,1+u,2,1,rfl,by omega,by omega,by decide,by decide,by decide,by decide,by decide⟩)⟩ b4 λ q n=>(f4 q n).trans ((f3 q n).trans (f12 q n))⟩⟩⟩
  ·exact⟨_,rfl,_,rfl,_,rfl,.mk σ ρ A S L p .w rfl b2 (Nk f12) hp hl (hnl .w nofun) (h6 .w nofun) λ y M3 hy b3 f3=>⟨[.str "door",.str z,.str y],rfl,few (by simp),k (.row .o ⟨z,.str y,[]⟩) M3 ⟨hz,hy,rfl,.inr (.inl ⟨rfl,rfl⟩)⟩ b3 λ q n=>(f3 q n).trans (f12 q n)⟩⟩
theorem fj{k:Nat}:∀ {ds:List PyData},(∀ d∈ds,okD k d=true)->okA k ds=true
 | [],_=>by simp[okA]
 | d::ds,h=>by simp only[okA,ae00];exact⟨h d (by simp),fj λ x hx=>h x (by simp[hx])⟩
theorem okI{i:Int}(h0:0<=i)(h1:i<=20)(k:Nat):okD k (.int i)=true:=by have:i.natAbs<2 ^ 100:=Nat.lt_of_le_of_lt (show i.natAbs<=20 by omega) (by decide);cases k<;>(simp only[okD];exact decide_eq_true this)
theorem okS{z:Str}(h:wd z=true)(k:Nat):okD k (.str z)=true:=by
 cases k<;>(simp only[okD];exact yh h)
theorem y8{z:Str}(h:wd z=true):big (.str z)<=82:=by have:=(aeq h).2;simp only[big];omega
theorem Sn.wd'{n:Sn}(h:n=.w\/n=.r .s\/n=.r .o\/n=.r .u):wd n.nm=true:=by rcases h with rfl | rfl | rfl | rfl<;>decide +kernel
theorem Sr.wd'(t:Sr):wd t.nm=true:=by cases t<;>decide +kernel
theorem Rg.dat{t:Sr}{r:Rw}(h:Rg t r)(k:Nat):(∀ d∈r.ds,okD k d=true)/\iA r.ds<=6200:=by
 obtain⟨z,w,rr⟩:=r;obtain⟨hz,hv,hw,h⟩:=h;have wz:wd z=true:=(iJ _ hz).1;have wv:=(iJ _ hv).1;generalize Rw.v ⟨z,w,rr⟩=v at hv hw wv;have hw:w=.str v:=hw;subst hw;have b1:=y8 wz;have b2:=y8 wv;have e:rr=[]\/∃ a c p:Int,rr=[.int a,.int c,.int p]/\(1<=a/\a<=20)/\(0<=c/\c<=6)/\0<=p/\p<=5:=by
  rcases h with ⟨_,h⟩ | ⟨_,h⟩ | ⟨_,a,c,p,h,a0,a1,c0,c1,p0,p1,_⟩
  ·exact .inl h
  ·exact .inl h
  ·exact .inr ⟨a,c,p,h,⟨a0,a1⟩,⟨c0,c1⟩,p0,p1⟩
 rcases e with rfl | ⟨a,c,p,rfl,⟨a0,a1⟩,⟨c0,c1⟩,p0,p1⟩
 ·refine⟨λ d hd=>?_,by simp only[Rw.ds,iA];omega⟩;simp only[Rw.ds,List.mem_cons,List.not_mem_nil,or_false] at hd;rcases hd with rfl | rfl
  ·exact okS wz k
  ·exact okS wv k
 ·refine⟨λ d hd=>?_,by simp only[Rw.ds,iA];simp only[big] at b1 b2 ⊢;omega⟩;simp only[Rw.ds,List.mem_cons,List.not_mem_nil,or_false] at hd;rcases hd with rfl | rfl | rfl | rfl | rfl
  ·exact okS wz k
  ·exact okS wv k
  ·exact okI (by omega) (by omega) k
  ·exact okI (by omega) (by omega) k
  ·exact okI (by omega) (by omega) k
theorem Dg.dat{D:De}(h:Dg D)(k:Nat):(∀ d∈(.str D.nm::D.as:List PyData),okD k d=true)/\big (deD D)<=8700:=by
 cases D with
 | row t r =>
  obtain⟨h1,h2⟩:=Rg.dat h k;have b:=y8 (Sr.wd' t);refine⟨λ d hd=>?_,by show iA (.str t.nm::r.ds)+3<=8700;simp only[iA];omega⟩;rcases List.mem_cons.mp hd with rfl | hd
  ·exact okS (Sr.wd' t) k
  ·exact h1 d hd
 | fq z kd c p s h' =>
  obtain⟨hz,wk',⟨c0,c1⟩,⟨p0,p1⟩,⟨s0,s1⟩,⟨h0,h1⟩,lk⟩:=h;have wz:=(iJ _ hz).1;have b1:=y8 wz;have b2:=y8 wk';have b3:=y8 (z:= "wish") (by decide +kernel);refine⟨λ d hd=>?_,by show iA [.str "wish",.str z,.str kd,.int c,.int p,.int s,.int h']+3<=8700;simp only[iA];simp only[big] at b1 b2 b3 ⊢;omega⟩;simp only[De.nm,De.as,List.mem_cons,List.not_mem_nil,or_false] at hd;rcases hd with rfl | rfl | rfl | rfl | rfl | rfl | rfl
  ·exact okS (by decide +kernel) k
  ·exact okS wz k
  ·exact okS wk' k
  all_goals exact okI (by omega) (by omega) k
 | fin n z =>
  obtain⟨hz,hn⟩:=h;have wz:=(iJ _ hz).1;have b1:=y8 wz;have b2:=y8 (Sn.wd' hn);have b3:=y8 (z:= "end") (by decide +kernel);refine⟨λ d hd=>?_,by show iA [.str "end",.str n.nm,.str z]+3<=8700;simp only[iA];simp only[big] at b1 b2 b3 ⊢;omega⟩;simp only[De.nm,De.as,List.mem_cons,List.not_mem_nil,or_false] at hd;rcases hd with rfl | rfl | rfl
  ·exact okS (by decide +kernel) k
  ·exact okS (Sn.wd' hn) k
  ·exact okS wz k
structure Ok(S:Bs)(k:Nat):Prop where
 rn:S.rs.Nodup
 rT:∀ z,z∈S.rs ↔ z∈S.T.map (·.1)
 em:S.em=[]
 ms:Nms S.ms
 r6:∀ z∈S.rs,z∈L6
 el:S.es.length<=k
 dl:S.dn.length<=k
 tl:S.T.length<=k
 r8:S.rs.length<=8
 Ro:∀ t,(S.R t).length<=most (.r t)
 Rh:∀ t,∀ r∈S.R t,Rg t r
 dn:∀ d∈S.dn,okD 4 d=true/\big d<=8800
 T:∀ x∈S.T,∀ v∈(wr x.2).map (·.2),okD 3 v=true/\big v<=4100
theorem vG(n:Sn):most n<=8:=by
 cases n with
 | m=>decide
 | w=>decide
 | r t=>cases t<;>decide
theorem Ok.rl{S:Bs}{k:Nat}(O:Ok S k):K26.Rl S:=⟨λ t=>Nat.le_trans (O.Ro t) (Nat.le_trans (vG _) (by decide)),λ t _ r hr=>(O.Rh t r hr).2.2.1⟩
theorem Ok.lim{S:Bs}{k:Nat}(O:Ok S k)(h:k<=900):Lim S:=⟨O.rl,O.r8,Nat.le_trans O.tl h,Nat.le_trans O.dl h,Nat.le_trans O.el h,O.rT⟩
theorem Ok.mst{S:Bs}{k:Nat}(O:Ok S k):Mst S:=⟨λ n hn=>by
 rcases hn with rfl | ⟨t,rfl⟩
 ·exact O.r8
 ·show((S.R t).map (·.z)).length<=_;rw[lm];exact O.Ro t,λ t r hr=>(iJ _ (O.Rh t r hr).1).1⟩
theorem Ok.mono{S:Bs}{k j:Nat}(O:Ok S k)(h:k<=j):Ok S j:=⟨O.rn,O.rT,O.em,O.ms,O.r6,Nat.le_trans O.el h,Nat.le_trans O.dl h,Nat.le_trans O.tl h,O.r8,O.Ro,O.Rh,O.dn,O.T⟩
theorem aiH{D:De}{S:Bs}(h:out D S=none):o1 D S=none/\o2 D S=none/\o3 D S=none:=by
 unfold out at h;rw[Option.or_eq_none_iff,Option.or_eq_none_iff,Option.or_eq_none_iff] at h;exact⟨h.1,h.2.1,h.2.2.1⟩
theorem Stp.ok{S S':Bs}{k:Nat}{D:De}(O:Ok S k)(hD:Dg D)(e:out D S=none)(st:Stp "hand" S D S'):Ok S' (k+1):=by
 obtain⟨u1,u2,u3⟩:=aiH e;have lg:∀ d∈S.dn++[lgD "hand" D],okD 4 d=true/\big d<=8800:=λ d hd=>by
  rcases List.mem_append.mp hd with hd | hd
  ·exact O.dn d hd
  ·rw[List.mem_singleton.mp hd];obtain⟨g1,g2⟩:=hD.dat 2;have b:=y8 (z:= "hand") (by decide +kernel);refine⟨?_,by show iA [.str "hand",deD D]+3<=8800;simp only[iA];omega⟩;show okA 3 [.str "hand",deD D]=true;refine fj λ d hd=>?_;simp only[List.mem_cons,List.not_mem_nil,or_false] at hd;rcases hd with rfl | rfl
   ·exact okS (by decide +kernel) 3
   ·show okA 2 (.str D.nm::D.as)=true;exact fj g1
 have dl:(S.dn++[lgD "hand" D]).length<=k+1:=by have:=O.dl;simp;omega
 have el:=O.el;have tl:=O.tl;cases st with
 | row t r =>
  refine⟨O.rn,O.rT,O.em,O.ms,O.r6,by show S.es.length<=k+1;omega,dl,by show S.T.length<=k+1;omega,O.r8,λ u=>?_,λ u r' hr=>?_,lg,O.T⟩
  ·show(upR S.R t (S.R t++[r]) u).length<=_
   by_cases h:u=t
   ·subst h;rw[hZ];have h3:¬ most (.r u)<=(nms S (.r u)).length:=λ h=>by have:o3 (.row u r) S=some (.many (most (.r u))):=if_pos h;rw[this] at u3;cases u3
    have:(nms S (.r u)).length=(S.R u).length:=by show((S.R u).map (·.z)).length=_;rw[lm]
    simp;omega
   ·rw[nW h];exact O.Ro u
  ·have hr:r'∈upR S.R t (S.R t++[r]) u:=hr
   by_cases h:u=t
   ·subst h;rw[hZ] at hr;rcases List.mem_append.mp hr with hr | hr
    ·exact O.Rh u r' hr
    ·rw[List.mem_singleton.mp hr];exact hD
   ·rw[nW h] at hr;exact O.Rh u r' hr
 | fq z kd c p s h a l =>
  have hz:z ∉ S.rs:=λ hz=>by have:o2 (.fq z kd c p s h) S=some (.known z):=if_pos (.inl hz);rw[this] at u2;cases u2
  have h8:¬ 8<=S.rs.length:=λ h8=>by have:o3 (.fq z kd c p s h) S=some (.many 8):=if_pos h8;rw[this] at u3;cases u3
  obtain⟨g1,wk',⟨c0,c1⟩,⟨p0,p1⟩,⟨s0,s1⟩,⟨h0,h1⟩,lk⟩:=hD;refine⟨List.nodup_append.mpr ⟨O.rn,by simp,λ a h1 b h2 e=>hz (by rw[List.mem_singleton.mp h2] at e;exact e ▸ h1)⟩,λ v=>?_,O.em,O.ms,λ v hv=>?_,by show S.es.length<=k+1;omega,dl,by show(S.T++_).length<=k+1;simp;omega,by show(S.rs++[z]).length<=8;simp;omega,O.Ro,O.Rh,lg,λ x hx v hv=>?_⟩
  ·show v∈S.rs++[z] ↔ v∈(S.T++_).map (·.1);rw[List.map_append,List.mem_append,List.mem_append,O.rT v];rfl
  ·rcases List.mem_append.mp hv with hv | hv
   ·exact O.r6 v hv
   ·rw[List.mem_singleton.mp hv];exact g1
  ·rcases List.mem_append.mp hx with hx | hx
   ·exact O.T x hx v hv
   ·rw[List.mem_singleton.mp hx] at hv;simp only[wr,List.map_cons,List.map_nil,List.mem_cons,List.not_mem_nil,or_false] at hv;rcases hv with rfl | rfl | rfl | rfl | rfl
    ·exact⟨okS wk' 3,Nat.le_trans (y8 wk') (by decide)⟩
    ·exact⟨okI c0 (by omega) 3,by simp[big]⟩
    ·exact⟨okI p0 (by omega) 3,by simp[big]⟩
    ·exact⟨okI (by decide) (by decide) 3,by simp[big]⟩
    ·refine⟨?_,by simp[big,iA]⟩;show okA 2 [.tuple [.int s,.int h]]=true;refine fj λ d hd=>?_;rw[List.mem_singleton.mp hd];show okA 1 [.int s,.int h]=true;refine fj λ d hd=>?_;simp only[List.mem_cons,List.not_mem_nil,or_false] at hd;rcases hd with rfl | rfl
     ·exact okI s0 (by omega) 1
     ·exact okI (by omega) (by omega) 1
 | finW z =>
  refine⟨O.rn.erase z,λ v=>?_,O.em,O.ms,λ v hv=>O.r6 v (List.mem_of_mem_erase hv),by show(S.es++[z]).length<=k+1;simp;omega,dl,Nat.le_trans (List.length_filter_le _ _) (by omega),Nat.le_trans List.length_erase_le O.r8,O.Ro,O.Rh,lg,λ x hx=>O.T x (List.mem_filter.mp hx).1⟩;show v∈S.rs.erase z ↔ v∈(S.T.filter λ u=>decide (u.1≠z)).map (·.1);rw[O.rn.mem_erase_iff,O.rT v];constructor
  ·rintro⟨h1,h2⟩;obtain⟨x,hx,rfl⟩:=List.mem_map.mp h2;exact List.mem_map.mpr ⟨x,List.mem_filter.mpr ⟨hx,decide_eq_true h1⟩,rfl⟩
  ·intro h;obtain⟨x,hx,rfl⟩:=List.mem_map.mp h;obtain⟨h1,h2⟩:=List.mem_filter.mp hx;exact⟨of_decide_eq_true h2,List.mem_map.mpr ⟨x,h1,rfl⟩⟩
 | fin t z p =>
  refine⟨O.rn,O.rT,O.em,O.ms,O.r6,by show S.es.length<=k+1;omega,dl,by show S.T.length<=k+1;omega,O.r8,λ u=>?_,λ u r' hr=>?_,lg,O.T⟩
  ·show(upR S.R t (kpR z (S.R t)) u).length<=_
   by_cases h:u=t
   ·subst h;rw[hZ];exact Nat.le_trans (List.length_filter_le _ _) (O.Ro u)
   ·rw[nW h];exact O.Ro u
  ·have hr:r'∈upR S.R t (kpR z (S.R t)) u:=hr
   by_cases h:u=t
   ·subst h;rw[hZ] at hr;exact O.Rh u r' (List.mem_filter.mp hr).1
   ·rw[nW h] at hr;exact O.Rh u r' hr
theorem acQ(xs ys:List PyData):iA (xs++ys)=iA xs+iA ys:=by
 induction xs with
 | nil=>simp[iA]
 | cons x xs ih=>simp only[List.cons_append,iA,ih];omega
theorem akQ{S:Bs}{k:Nat}(O:Ok S k)(nd:(S.T.map (·.1)).Nodup)(hk:k<=50):eI (stD S)=true:=by
 have rows:∀ t,okD 5 (.list (rwD (S.R t)))=true/\big (.list (rwD (S.R t)))<=50000:=λ t=>by
  have hl:=Nat.le_trans (O.Ro t) (vG _);refine⟨?_,?_⟩
  ·show okA 4 (rwD (S.R t))=true;refine fj λ d hd=>?_;obtain⟨r,hr,rfl⟩:=List.mem_map.mp hd;show okA 3 r.ds=true;exact fj ((O.Rh t r hr).dat 3).1
  ·have:=kX (c:=6203) (ds:=rwD (S.R t)) λ d hd=>by obtain⟨r,hr,rfl⟩:=List.mem_map.mp hd;have:=((O.Rh t r hr).dat 3).2;show iA r.ds+3<=6203;omega
   rw[lm] at this;have h2:(S.R t).length * (6203+2)<=8 * 6205:=Nat.mul_le_mul hl (by omega);show iA (rwD (S.R t))+2<=50000;omega
 have stq:∀ zs:List Str,(∀ z∈zs,wd z=true)->zs.length<=8->okD 5 (jo zs)=true/\big (jo zs)<=1000:=λ zs hz hl=>by
  refine⟨?_,?_⟩
  ·show okA 4 (zs.map PyData.str)=true;refine fj λ d hd=>?_;obtain⟨z,hz',rfl⟩:=List.mem_map.mp hd;exact okS (hz z hz') 4
  ·have:=kX (c:=82) (ds:=zs.map PyData.str) λ d hd=>by obtain⟨z,hz',rfl⟩:=List.mem_map.mp hd;exact y8 (hz z hz')
   rw[lm] at this;have h2:zs.length * (82+2)<=8 * 84:=Nat.mul_le_mul hl (by omega);show iA (zs.map PyData.str)+2<=1000;omega
 have r6:=stq S.rs (λ z hz=>(iJ z (O.r6 z hz)).1) O.r8;have m8:=stq S.ms O.ms.w O.ms.h8;have lg:okD 5 (.list S.dn)=true/\big (.list S.dn)<=441000:=by
  refine⟨?_,?_⟩
  ·show okA 4 S.dn=true;exact fj λ d hd=>(O.dn d hd).1
  ·have:=kX (c:=8800) (ds:=S.dn) λ d hd=>(O.dn d hd).2;have h2:S.dn.length * (8800+2)<=50 * 8802:=Nat.mul_le_mul (Nat.le_trans O.dl hk) (by omega);show iA S.dn+2<=441000;omega
 have wl:∀ d∈wlD S,okD 5 d=true/\big d<=22000:=λ d hd=>by
  obtain⟨z,hz,rfl⟩:=List.mem_map.mp hd;obtain⟨x,hx,rfl⟩:=List.mem_map.mp ((O.rT z).mp hz);rw[yv nd hx];have pm:=zw (wr x.2);have each:∀ q∈oq (wr x.2),wd q.1=true/\okD 3 q.2=true/\big q.2<=4100:=λ q hq=>by have hq:=pm.mem_iff.mp hq;have:=O.T x hx q.2 (List.mem_map.mpr ⟨q,hq,rfl⟩);refine⟨?_,this⟩;simp only[wr,List.mem_cons,List.not_mem_nil,or_false] at hq;rcases hq with rfl | rfl | rfl | rfl | rfl<;>(dsimp only;decide +kernel)
  refine⟨?_,?_⟩
  ·show okA 4 (itD (oq (wr x.2)))=true;refine fj λ d hd=>?_;obtain⟨q,hq,rfl⟩:=List.mem_map.mp hd;obtain⟨e1,e2,_⟩:=each q hq;show okA 3 [.str q.1,q.2]=true;refine fj λ d hd=>?_;simp only[List.mem_cons,List.not_mem_nil,or_false] at hd;rcases hd with rfl | rfl
   ·exact okS e1 3
   ·exact e2
  ·have:=kX (c:=4200) (ds:=itD (oq (wr x.2))) λ d hd=>by obtain⟨q,hq,rfl⟩:=List.mem_map.mp hd;obtain⟨e1,_,e3⟩:=each q hq;have:=y8 e1;show iA [.str q.1,q.2]+3<=4200;simp only[iA];omega
   rw[lm,pm.length_eq] at this;show iA (itD (oq (wr x.2)))+2<=22000;have h5:(wr x.2).length=5:=rfl;rw[h5] at this;omega
 refine aap (k:=6) (by decide) ?_ ?_
 ·show okA 5 _=true;refine fj λ d hd=>?_;rcases List.mem_append.mp hd with hd | hd
  ·simp only[List.mem_cons,List.not_mem_nil,or_false] at hd;rcases hd with rfl | rfl | rfl | rfl | rfl | rfl | rfl | rfl
   ·exact(rows .g).1
   ·exact r6.1
   ·exact(rows .s).1
   ·exact(rows .o).1
   ·exact(rows .u).1
   ·rfl
   ·exact m8.1
   ·exact lg.1
  ·exact(wl d hd).1
 ·show iA _+2<=1000000;rw[acQ];have h1:=(rows .g).2;have h2:=(rows .s).2;have h3:=(rows .o).2;have h4:=(rows .u).2;have h5:=r6.2;have h6:=m8.2;have h7:=lg.2;have h8:=kX (c:=22000) (ds:=wlD S) λ d hd=>(wl d hd).2;rw[lm] at h8;have h9:S.rs.length * (22000+2)<=8 * 22002:=Nat.mul_le_mul O.r8 (by omega);have h0:big (.list [])=2:=by simp[big,iA]
  simp only[iA] at *;omega
def aid(bR:SpD)(bS:SpD)(bB:SpD):TSd:=
   bA (dIf (aJ (dOp jA (bH bR (ah (aj 3) aI)) (bH bS (ah (aj 4) aI))))
    (cF (dC (.d (.bool false))))
    bx) <|
   dIf (wg (aJ (dCB adh (ah (dLC (eG (dS "abcdef")) (gN 0) (aJ (dOp (mj true) (aj 0) (bf (aj 2) (dS "ranked")))) (bH bB (ah (aj 1) (ah (aj 0) aI))) 1 [3,4]) aI))))
    (cF (dC (.d (.bool false))))
    (bx)
theorem ab6:∀ c∈("abcdef" : Str).cps.toList,wd ⟨#[c]⟩=true:=by decide +kernel
theorem aff:("abcdef" : Str).cps.toList.length=6:=by decide +kernel
theorem abZ{M:MH}{ρ σ:Rm}{A:Ads}{Am:Ams}{S:Bs}{L:List (Str×Wi)}{k:Nat}{Ed:Ed}{τ:DS}(B:Bk M ρ A S)(N:Mo M σ ρ Am S L)(O:Ok S k)(hk:k<=50)(h3:τ[3]? =some (some (.m A.b)))(h4:τ[4]? =some (some (.m Am.m)))(q:∀ M',Ext M M'->Ed.nx τ M'):aid bR bS bB Ed τ M:=by
 have sl:=s16;have ok:=akQ O B.tn hk;have Lm:=O.lim (show k<=900 by omega);refine⟨_,h3,.mk ρ A S rfl B Lm O.em (λ z hz=>(iJ z (O.r6 z hz)).1) ok λ M1 x1=>⟨_,h4,.mk σ ρ Am S L rfl (N.keep (Fr2.ext x1)) B.tn Lm ok λ M2 x2=>⟨_,_,.d,.d,rfl,_,rfl,a9 (by rw[eqS];rfl) ?_⟩⟩⟩;have B2:=B.ext (x1.trans x2);have N2:=N.keep (Fr2.ext (x1.trans x2));have x12:=x1.trans x2;clear x1 x2;refine⟨_,rfl,?_⟩;refine aim (J:=λ M'=>Ext M2 M') (G:=λ d=>d=.bool true) (by rw[lm,aff];omega) (Ext.refl M2) (λ w hw M3 x3 P' y1 y2=>?_) (λ acc M3 x3 hG _=>?_)
 ·obtain⟨c,hc,rfl⟩:=List.mem_map.mp hw;have wz:=ab6 c hc;simp only[List.map_cons,List.map_nil,h3,h4,Option.getD_some];have N3:=N2.keep (Fr2.ext x3);refine⟨_,rfl,_,rfl,Am.m,_,.inr "ranked",_,rfl,.inl N3.hm,rfl,rfl,_,S.rs,rfl,aj8 _,_,rfl,?_⟩
  by_cases h:(⟨#[c]⟩:Str)∈S.rs
  ·exact a9 (by rw[decide_eq_true h];rfl) (y2 M3 x3)
  ·exact bW (by rw[decide_eq_false h];rfl) ⟨_,rfl,_,rfl,ρ,A,S,_,rfl,B2.ext x3,(λ h'=>h ((O.rT _).mpr h')),wz,λ M4 x4=>⟨_,rfl,y1 _ M4 rfl (x3.trans x4)⟩⟩
 ·have e:acc=(acc.map λ _=>true).map PyData.bool:=by rw[List.map_map];exact(List.map_id acc).symm.trans (List.map_congr_left λ d hd=>hG d hd)
  refine⟨acc.map λ _=>true,by rw[<- e],_,rfl,?_⟩;rw[show((acc.map λ _=>true).all id)=true by rw[List.all_map];simp];exact fh (q M3 (x12.trans x3))
def aiv(d5:SpD)(du:SpD)(dv:SpD)(bR:SpD)(bS:SpD)(bB:SpD):TSd:=
   bA (dU (bH d5 (ah (aj 4) (ah (aj 6) aI))) (gN 7)) <|
   bA (dIf (aJ (dOp jA (bH du (ah (aj 3) (ah (aj 6) (ah (dS "hand") aI)))) (aj 7)))
    (cF (dC (.d (.bool false))))
    bx) <|
   bA (dIf (aJ (dOp bU (dOp bL (aj 7) (dI 0)) (dS "done")))
    (eL (bH dv (ah (aj 4) (ah (aj 6) (ah (dS "hand") aI)))))
    bx) <|
   aid bR bS bB
inductive LI(p:Addr) (A:Ads) (Am:Ams) (k:Nat) (τ:DS) (M:MH):Prop
 | mk (ρ σ:Rm) (S:Bs) (L:List (Str×Wi)) (x0 x2 x5 x6 x7:Option W) (b:Bag M p) (rp:ρ p=none) (sp:σ p=none) (B:Bk M ρ A S) (N:Mo M σ ρ Am S L) (O:Ok S k) (lL:L.length<=k) (e:τ=[x0,some (.m p),x2,some (.m A.b),some (.m Am.m),x5,x6,x7]):LI p A Am k τ M
theorem xE{M M':MH}{p:Addr}(b:Bag M p)(f:∀ o,M p=some o->M' p=some o):Bag M' p:=by obtain⟨x,y,z,ns,e,h⟩:=b;exact⟨x,y,z,ns,f _ e,h⟩
theorem ahW{M:MH}{p a:Addr}(b:Bag M p)(ha:M a=none):p≠a:=by obtain⟨_,_,_,_,e,_⟩:=b;exact aT e ha
theorem mv{M:MH}{p:Addr}(b:Bag M p):∃ o,M p=some o:=by obtain⟨_,_,_,_,e,_⟩:=b;exact⟨_,e⟩
theorem okT{w:Str}{d:PyData}(h:wd w=true)(hd:okD 0 d=true):okD 1 (.tuple [.str w,d])=true:=by show okA 0 [.str w,d]=true;simp only[okA,Bool.and_true,ae00];exact⟨okS h 0,hd⟩
theorem ag0{D:De}{S:Bs}{k:Nat}(O:Ok S k)(hD:Dg D):okD 1 (aks (out D S))=true:=by
 have hz:∀ n z,need D=some (n,z)->wd z=true:=λ n z e=>by
  cases D with
  | row t r =>
   have:=(iJ _ hD.2.1).1;cases t<;>cases e<;>exact this
  | fq=>cases e
  | fin n' z'=>cases e;exact(iJ _ hD.1).1
 have hz2:∀ n z,adL D=some (n,z)->wd z=true:=λ n z e=>by
  cases D with
  | row t r=>cases e;exact(iJ _ hD.1).1
  | fq=>cases e;exact(iJ _ hD.1).1
  | fin n' z'=>cases e
 have i1:∀ u,o1 D S=some u->okD 1 (outD u)=true:=λ u e=>by
  unfold o1 at e;cases en:need D with
  | none=>rw[en] at e;cases e
  | some nz =>
   obtain⟨n,z⟩:=nz;rw[en] at e;simp only at e
   split at e
   ·cases e
   ·cases e;exact okT (w:= "unknown") (by decide +kernel) (okS (hz n z en) 0)
 have i2:∀ u,o2 D S=some u->okD 1 (outD u)=true:=λ u e=>by
  unfold o2 at e;cases en:adL D with
  | none=>rw[en] at e;cases e
  | some nz =>
   obtain⟨n,z⟩:=nz;rw[en] at e;simp only at e
   split at e
   ·cases e;exact okT (w:= "known") (by decide +kernel) (okS (hz2 n z en) 0)
   ·cases e
 have i3:∀ u,o3 D S=some u->okD 1 (outD u)=true:=λ u e=>by
  unfold o3 at e;cases en:adL D with
  | none=>rw[en] at e;cases e
  | some nz =>
   obtain⟨n,z⟩:=nz;rw[en] at e;simp only at e
   split at e
   ·cases e;have:=vG n;exact okT (w:= "many") (by decide +kernel) (okI (by omega) (by omega) 0)
   ·cases e
 have i4:∀ u,o4 D S=some u->okD 1 (outD u)=true:=λ u e=>by
  unfold o4 at e;obtain⟨r,hr,rfl⟩:=Option.map_eq_some_iff.mp e;have hm:=List.mem_of_head? hr;cases D with
  | fin n z =>
   obtain⟨t,_,hr⟩:=List.mem_flatMap.mp (List.mem_filter.mp hm).1;exact okT (w:= "used") (by decide +kernel) (okS (iJ _ (O.Rh t r hr).1).1 0)
  | _=>cases hm
 cases e:out D S with
 | none=>show okD 1 vm=true;decide +kernel
 | some u =>
  unfold out at e;cases e1:o1 D S with
  | some v=>rw[e1] at e;cases e;exact i1 u e1
  | none =>
   cases e2:o2 D S with
   | some v=>rw[e1,e2] at e;cases e;exact i2 u e2
   | none =>
    cases e3:o3 D S with
    | some v=>rw[e1,e2,e3] at e;cases e;exact i3 u e3
    | none=>rw[e1,e2,e3] at e;exact i4 u e
theorem aiJ{M:MH}(u:Out):∃ y:Str,ixW M (.d (outD u)) 0=some (.d (.str y))/\y ≠ "done":= by
 cases u with
 | unknown z=>exact⟨"unknown",rfl,by decide +kernel⟩
 | known z=>exact⟨"known",rfl,by decide +kernel⟩
 | many n=>exact⟨"many",rfl,by decide +kernel⟩
 | used z=>exact⟨"used",rfl,by decide +kernel⟩
theorem turn{M:MH}{ρ σ:Rm}{A:Ads}{Am:Ams}{S:Bs}{L:List (Str×Wi)}{k:Nat}{p:Addr}{D:De}{Ed:Ed}{x0 x2 x5 x7:Option W}(b:Bag M p)(rp:ρ p=none)(sp:σ p=none)(B:Bk M ρ A S)(N:Mo M σ ρ Am S L)(O:Ok S k)(lL:L.length<=k)(hD:Dg D)(hk:k<50)(q:∀ τ M',LI p A Am (k+1) τ M'->Ed.nx τ M'):aiv d5 du dv bR bS bB Ed [x0,some (.m p),x2,some (.m A.b),some (.m Am.m),x5,some (.d (deD D)),x7] M:=by
 have Lm:=O.lim (show k<=900 by omega);have ok:=ag0 O hD;refine⟨_,rfl,_,rfl,.mk σ ρ Am S L D rfl N O.rl O.mst hD.ok.v λ M1 x1=>?_⟩;have B1:=B.ext x1;have N1:=N.keep (Fr2.ext x1);have b1:=Ext.bag x1 b;refine⟨_,rfl,_,rfl,.mk ρ A S D "hand" rfl B1 Lm hD.ok (λ e ρ' S' M2 st B2 f2=>?_) (λ u e M2 xt=>?_)⟩
 ·rw[e] at ok ⊢;have ok:okD 1 vm=true:=ok;have N2:=N1.keep f2;obtain⟨ob,hb⟩:=mv b1;have b2:Bag M2 p:=xE b1 λ o e=>(f2 p o e rp).1;have rp2:ρ' p=none:=(f2 p ob hb rp).2;obtain⟨u1,u2,u3⟩:=aiH e;refine⟨_,rfl,vm,vm,.d,.d,mB (k:=1) (by decide) ok ok,_,rfl,a9 (by rw[aaH ok];rfl) ⟨_,rfl,_,_,rfl,ake,rfl,_,_,.d,.d,rfl,_,rfl,bW (eqS _) ?_⟩⟩;refine⟨_,rfl,_,rfl,.mk σ ρ' Am S L D "hand" S' rfl N2 st O.rl hD.ok.v O.rn O.r8 Lm.dl Lm.el (by omega) (λ z kd c p' s h ed=>?_) λ σ3 ρ3 M3 L3 N3 l3 f3=>?_⟩
  ·subst ed;constructor
   ·intro hz;have:o2 (.fq z kd c p' s h) S=some (.known z):=if_pos (.inl hz);rw[this] at u2;cases u2
   ·intro hz;have:o2 (.fq z kd c p' s h) S=some (.known z):=if_pos (.inr ⟨rfl,hz⟩);rw[this] at u2;cases u2
  ·have O3:=Stp.ok O hD e st;have B3:Bk M3 ρ3 A S':=⟨λ h=>by obtain⟨g1,g2⟩:=B2.c h;exact⟨f3.fB _ _ _ g1 g2,(f3.fR _ _ g1).trans g2⟩,B2.tn⟩
   obtain⟨ob2,hb2⟩:=mv b2;have b3:Bag M3 p:=xE b2 λ o e=>(f3.fS p o e sp).1;have sp3:σ3 p=none:=(f3.fS p ob2 hb2 sp).2;have rp3:ρ3 p=none:=(f3.fR p ob2 hb2).trans rp2;exact abZ B3 N3 O3 (by omega) rfl rfl λ M4 x4=>q _ M4 (.mk ρ3 σ3 S' L3 _ _ _ _ _ (Ext.bag x4 b3) rp3 sp3 (B3.ext x4) (N3.keep (Fr2.ext x4)) O3 (by omega) rfl)
 ·rw[e] at ok ⊢;have ok:okD 1 (outD u)=true:=ok;obtain⟨y,y1,y2⟩:=aiJ (M:=M2) u;refine⟨_,rfl,outD u,outD u,.d,.d,mB (k:=1) (by decide) ok ok,_,rfl,a9 (by rw[aaH ok];rfl) ⟨_,rfl,_,_,rfl,y1,(by cases u<;>rfl),_,_,.d,.d,rfl,_,rfl,a9 (neS y2) ?_⟩⟩;exact abZ (B1.ext xt) (N1.keep (Fr2.ext xt)) (O.mono (show k<=k+1 by omega)) (by omega) rfl rfl λ M4 x4=>q _ M4 (.mk ρ σ S L _ _ _ _ _ (Ext.bag x4 (Ext.bag xt b1)) rp sp ((B1.ext xt).ext x4) ((N1.keep (Fr2.ext xt)).keep (Fr2.ext x4)) (O.mono (show k<=k+1 by omega)) (by omega) rfl)
def mT:SpD:=λ ws M Q=>∃ ns:List Int,ws=[.d (.list (ns.map PyData.int))]/\ns.length<=63/\∀ M',Q (.d (.bool true)) M'
theorem agx:Ln mT 1:=by rintro ws M Q ⟨d,rfl,_⟩;rfl
theorem adn:∀ ns:List Int,ns.length<=63->mT [.d (.list (ns.map PyData.int))] (λ _=>none) (λ w _=>w=.d (.bool true)):=λ ns h=>⟨ns,rfl,h,λ _=>rfl⟩
def Itm(d:PyData):Prop:=d=.none\/∃ D,Dg D/\d=deD D
theorem adV:∀ n<3,(Txt.slice "abcd" none (some ((n+2:Nat):Int))).cps.toList=("abcd" : Str).cps.toList.take (n+2):=by decide +kernel
theorem afv:∀ c∈("abcd" : Str).cps.toList,(⟨#[c]⟩:Str)∈L6:=by decide +kernel
theorem ac5:("abcd" : Str).cps.toList.length=4:=by decide +kernel
theorem adP:acH (.d (.str "abcd"))=true:=by decide +kernel
abbrev th3:List PyData:=[deD (.row .o ⟨"c",.str "a",[]⟩),deD (.row .s ⟨"b",.str "b",[]⟩),deD (.row .u ⟨"a",.str "c",[.int 3,.int 1,.int 0]⟩)]
theorem aju:∀ d∈th3,Itm d:=by
 intro d hd;simp only[List.mem_cons,List.not_mem_nil,or_false] at hd;rcases hd with rfl | rfl | rfl
 ·exact .inr ⟨.row .o ⟨"c",.str "a",[]⟩,⟨by decide +kernel,by decide +kernel,rfl,.inr (.inl ⟨rfl,rfl⟩)⟩,rfl⟩
 ·exact .inr ⟨.row .s ⟨"b",.str "b",[]⟩,⟨by decide +kernel,by decide +kernel,rfl,.inl ⟨rfl,rfl⟩⟩,rfl⟩
 ·exact .inr ⟨.row .u ⟨"a",.str "c",[.int 3,.int 1,.int 0]⟩,⟨by decide +kernel,by decide +kernel,rfl,.inr (.inr ⟨rfl,3,1,0,rfl,by decide,by decide,by decide,by decide,by decide,by decide,by decide⟩)⟩,rfl⟩
theorem adx:Rd mT (ajw gq cC cO gg aR fc d5 du dv bR bS bB) ahK:=by
 rintro ws M Q ⟨ns,rfl,hl,h⟩;have sl:=s16;refine⟨_,rfl,ns,rfl,by omega,λ p M0 hp f0 b0=>?_⟩;refine⟨_,rfl,.mk p rfl b0 λ ms M1 hms b1 f1=>?_⟩;clear f1 b0 f0 hp;refine⟨_,rfl,_,_,rfl,.l,λ l hl'=>⟨l,ms.map PyData.str,rfl,ao,?_⟩⟩;rw[dW hl'];clear hl';refine λ b hb=>⟨b,ms,hms,rfl,ao,λ ρ A x M2 eb B f=>⟨rfl,?_⟩⟩;subst eb;have pb:=ahW b1 hb;have fp:∀ o,M1 p=some o->M2 p=some o/\ρ p=none:=λ o e=>f p o pb (iN e hb);have b2:Bag M2 p:=xE b1 λ o e=>(fp o e).1;have rp2:ρ p=none:=by obtain⟨o,e⟩:=mv b1;exact(fp o e).2
 clear f fp hb;refine⟨_,rfl,ms,rfl,λ σ Am M3 fr cells=>?_⟩;obtain⟨ob,hob⟩:=mv b2;have b3:Bag M3 p:=xE b2 λ o e=>(fr p o e).1;have sp3:σ p=none:=(fr p ob hob).2;obtain⟨ρ3,B3,N3,rp3⟩:∃ ρ3:Rm,Bk M3 ρ3 A (S0 ms x)/\Mo M3 σ ρ3 Am (S0 ms x) []/\ρ3 p=none:=by
  refine⟨λ q=>match σ q with | none=>ρ q | some _=>none,⟨λ {c q o} hc=>?_,B.tn⟩,⟨λ {c q o} hc=>?_,.nil,nofun,nofun⟩,?_⟩
  ·obtain⟨g1,g2⟩:=B.c hc;obtain⟨g3,g4⟩:=fr _ _ g1;exact⟨g3,by show(match σ q with | none=>ρ q | some _=>none)=_;rw[g4];exact g2⟩
  ·obtain⟨g1,g2,g3⟩:=cells x c q o hc;exact⟨g1,g2,by show(match σ q with | none=>ρ q | some _=>none)=_;rw[g2]⟩
  ·show(match σ p with | none=>ρ p | some _=>none)=_
   rw[sp3];exact rp2
 have O3:Ok (S0 ms x) 0:=⟨.nil,λ z=>⟨nofun,nofun⟩,rfl,hms,nofun,lr0 0,lr0 0,lr0 0,Nat.zero_le 8,λ t=>Nat.zero_le _,nofun,nofun,nofun⟩;clear fr cells B b2 rp2 hob b1;have Bk':∀ {M M':MH} {S:Bs} {ρ:Rm},Bk M ρ A S->ρ p=none->(∀ q,q≠p->M' q=M q)->Bk M' ρ A S:=λ B rp f=>B.same λ q r e=>f q (λ z=>by rw[z,rp] at e;cases e);have Mk':∀ {M M':MH} {S:Bs} {σ ρ:Rm} {L:List (Str×Wi)},Mo M σ ρ Am S L->σ p=none->(∀ q,q≠p->M' q=M q)->Mo M' σ ρ Am S L:=λ N sp f=>N.same λ q r e=>f q (λ z=>by rw[z,sp] at e;cases e);refine⟨_,rfl,p,3,rfl,b3,by decide,by decide,λ n M4 n0 n1 b4 f4=>.inl ⟨_,_,rfl,rfl,_,rfl,_,rfl,adP,_,rfl,?_⟩⟩;have B4:=Bk' B3 rp3 f4;have N4:=Mk' N3 sp3 f4;clear B3 N3 b3 f4;obtain⟨n,rfl⟩:=Int.eq_ofNat_of_zero_le n0;rw[show(2+((n:Nat):Int))=((n+2:Nat):Int) by omega,adV n (by omega)];have cl:(("abcd" : Str).cps.toList.take (n+2)).length<=4:=by rw[List.length_take,ac5];omega
 refine oW (("abcd" : Str).cps.toList.take (n+2)) (λ c=>W.d (.str ⟨#[c]⟩)) (λ c=>deD (.fq ⟨#[c]⟩ "front" 1 0 0 1)) (λ τ=>∃ y,τ=[y]) (by omega) ⟨_,rfl⟩ (λ c hc τ hτ R hR=>?_) (λ τ=>?_)
 ·obtain⟨y,rfl⟩:=hτ;exact⟨_,rfl,[.str "wish",.str ⟨#[c]⟩,.str "front",.int 1,.int 0,.int 0,.int 1],rfl,few (by simp),_,rfl,hR _ ⟨_,rfl⟩⟩
 have g1:∀ d∈(("abcd" : Str).cps.toList.take (n+2)).map λ c=>deD (.fq ⟨#[c]⟩ "front" 1 0 0 1),Itm d:=λ d hd=>by obtain⟨c,hc,rfl⟩:=List.mem_map.mp hd;exact .inr ⟨.fq ⟨#[c]⟩ "front" 1 0 0 1,⟨afv c (List.mem_of_mem_take hc),by decide +kernel,by decide,by decide,by decide,by decide,by decide⟩,rfl⟩
 have gl:((("abcd" : Str).cps.toList.take (n+2)).map λ c=>deD (.fq ⟨#[c]⟩ "front" 1 0 0 1)).length<=4:=by rw[lm];exact cl
 generalize (("abcd" : Str).cps.toList.take (n+2)).map (λ c=>deD (.fq ⟨#[c]⟩ "front" 1 0 0 1))=ds1 at g1 gl;refine⟨_,rfl,[.str "door",.str "c",.str "a"],rfl,few (by simp),[.str "store",.str "b",.str "b"],rfl,few (by simp),[.str "rule",.str "a",.str "c",.int 3,.int 1,.int 0],rfl,few (by simp),th3,rfl,few (by simp),_,rfl,p,4,rfl,b4,by decide,by decide,λ m M5 m0 m1 b5 f5=>⟨_,rfl,_,rfl,rfl,_,_,.d,.d,?_,?_⟩⟩
 ·obtain⟨m,rfl⟩:=Int.eq_ofNat_of_zero_le m0;rw[iS (show m<=3 by omega),List.length_take];show _+min m 3<=_;omega
 obtain⟨m,rfl⟩:=Int.eq_ofNat_of_zero_le m0;rw[iS (show m<=3 by omega)];have B5:=Bk' B4 rp3 f5;have N5:=Mk' N4 sp3 f5;clear B4 N4 b4 f5;have g2:∀ d∈ds1++th3.take m,Itm d:=λ d hd=>by
  rcases List.mem_append.mp hd with hd | hd
  ·exact g1 d hd
  ·exact aju d (List.mem_of_mem_take hd)
 have gl2:(ds1++th3.take m).length<=7:=by rw[List.length_append,List.length_take];show _+min m 3<=7;omega
 generalize ds1++th3.take m=ds2 at g2 gl2;refine⟨_,rfl,[.none],rfl,few (by simp),_,rfl,p,26,rfl,b5,by decide,by decide,λ u M6 u0 u1 b6 f6=>.inl ⟨_,_,rfl,rfl,[.none],15+u,rfl,rfl,by omega,by omega,by simp,λ l hl'=>⟨l,_,rfl,ao,?_⟩⟩⟩;rw[dW hl'];clear hl';have B6:=Bk' B5 rp3 f6;have N6:=Mk' N5 sp3 f6;clear B5 N5 b5 f6;have rl:(List.replicate (15+u).toNat [PyData.none]).flatten.length<=40:=by rw[List.length_flatten,List.map_replicate,List.sum_replicate_nat];show(15+u).toNat * 1<=40;omega
 have g3:∀ d∈ds2++(List.replicate (15+u).toNat [PyData.none]).flatten,Itm d:=λ d hd=>by
  rcases List.mem_append.mp hd with hd | hd
  ·exact g2 d hd
  ·obtain⟨l,h1,h2⟩:=List.mem_flatten.mp hd;rw[(List.mem_replicate.mp h1).2] at h2;exact .inl (List.mem_singleton.mp h2)
 refine⟨_,_,.d,.d,by omega,_,rfl,?_⟩;have gl3:(ds2++(List.replicate (15+u).toNat [PyData.none]).flatten).length<=47:=by rw[List.length_append];omega
 generalize ds2++(List.replicate (15+u).toNat [PyData.none]).flatten=ds at g3 gl3;refine⟨λ i τ M=>LI p A Am i τ M,.mk ρ3 σ _ [] _ _ _ _ _ b6 rp3 sp3 B6 N6 O3 (lr0 0) rfl,?_,λ τ M7 _=>h M7⟩;clear B6 N6 O3 b6 rp3 sp3;rintro i w τ M7 hw ⟨ρ,σ,S,L,x0,x2,x5,x6,x7,b,rp,sp,B,N,O,lL,rfl⟩;rw[List.getElem?_map] at hw;obtain⟨d,hd,rfl⟩:=Option.map_eq_some_iff.mp hw;have hi:=(List.getElem?_eq_some_iff.mp hd).1;rcases g3 d (List.mem_of_getElem? hd) with rfl | ⟨D,hD,rfl⟩
 ·refine⟨_,rfl,rfl,_,rfl,si ⟨_,rfl,_,rfl,.mk σ ρ Am S L p rfl b N sp O.rl.l (Nat.le_trans O.r8 (by decide)) (λ n hn z hz=>?_) λ D M8 hD b8 f8=>?_⟩⟩
  ·cases n with
   | m=>exact absurd rfl hn
   | w=>exact O.r6 z hz
   | r t =>
    obtain⟨r,hr,rfl⟩:=List.mem_map.mp hz;exact(O.Rh t r hr).1
  ·exact turn b8 rp sp (Bk' B rp f8) (Mk' N sp f8) O lL hD (by omega) λ τ M' l=>l
 ·exact⟨_,rfl,rfl,_,rfl,fh (turn b rp sp B N O lL hD (by omega) λ τ M' l=>l)⟩
abbrev q_0:List Str:=["_law_script"]
abbrev q_1:List Str:=["_law_bag_here", "_law_many"]
abbrev q_2:List Str:=["_law_bag_here"]
abbrev q_3:List Str:=["_law_machines_here"]
abbrev q_4:List Str:=["_law_m", "_law_sort"]
abbrev q_5:List Str:=["_law_bag_here", "_law_m", "_law_sort"]
abbrev q_6:List Str:=["_law_bag_here", "_law_m"]
abbrev q_7:List Str:=["_law_m", "_law_thing"]
abbrev q_8:List Str:=["_law_m", "_law_sort", "_law_name_here"]
abbrev q_9:List Str:=["thing"]
abbrev ahq:List Str:=["thing", "low", "high"]
abbrev ahy:List Str:=["form", "part"]
abbrev ahp:List Str:=["forms", "deed"]
abbrev fE:List Str:=["self"]
abbrev ahx:List Str:=["_law_some", "_law_thing", "_law_who"]
abbrev ahr:List Str:=["_law_m", "_law_thing", "_law_who"]
abbrev ahm:List Str:=["_law_some"]
abbrev ahs:List Str:=["_law_m"]
abbrev ahA:List Str:=["_law_some", "_law_name_here"]
abbrev aht:List Str:=["self", "at"]
abbrev ahw:List Str:=["names"]
abbrev ahG:List Str:=["self", "machines"]
abbrev acx:List Str:=["self", "sort"]
abbrev kR:List Str:=["self", "name"]
abbrev jG:List Str:=["self", "deed"]
abbrev ahH:List Str:=["self", "most"]
abbrev sJ:List Str:=["book", "deed"]
abbrev ahE:List Str:=["self", "deed", "by"]
abbrev aho:List Str:=["_law_e"]
abbrev ahB:List Str:=["wish"]
local macro_rules | `(tactic| walk_at "sc")=>`(tactic| exact⟨rfl,rfl,rfl,by decide +kernel,rfl,by decide +kernel,by decide +kernel⟩)
local macro_rules | `(tactic| walk_at "b3")=>`(tactic| (intro _ _ _ _ _ _ us hl;obtain⟨_,_,_,e⟩:=D.akh hl;subst e;rfl))
local macro_rules | `(tactic| walk_at "b2")=>`(tactic| (intro _ _ _ _ _ _ us hl;obtain⟨_,_,e⟩:=D.agJ hl;subst e;rfl))
local macro_rules | `(tactic| walk_at "b1")=>`(tactic| (intro _ _ _ _ _ _ us hl;obtain⟨_,e⟩:=D.acN hl;subst e;rfl))
def top(i:Nat):Stmt:=PySem.Challenge.pw_placedworks_k26_ends_and_uses.main.body.getD i (.Pass ⟨0,0,0,0⟩)
abbrev rW:Stmt:=top 42
abbrev mH:Stmt:=top 43
abbrev gn:Stmt:=top 55
abbrev eU:Stmt:=inClass (top 17) 0
abbrev gE:Stmt:=top 5
abbrev eW:Stmt:=top 28
abbrev dP:Stmt:=inClass (top 40) 0
abbrev sv:Stmt:=top 44
abbrev kM:Stmt:=top 45
abbrev mw:Stmt:=top 56
abbrev mM:Stmt:=top 57
abbrev jP:Stmt:=top 46
abbrev jZ:Stmt:=top 47
abbrev rg:Stmt:=top 48
abbrev iV:Stmt:=top 3
abbrev gO:Stmt:=top 4
abbrev ka:Stmt:=top 11
abbrev gR:Stmt:=top 12
abbrev jN:Stmt:=top 10
abbrev eC:Stmt:=inClass (top 40) 17
abbrev fv:Stmt:=inClass (top 40) 11
abbrev cK:Stmt:=inClass (top 40) 4
abbrev dM:Stmt:=inClass (top 18) 0
abbrev cB:Stmt:=inClass (top 40) 5
abbrev gh:Stmt:=inClass (top 19) 0
abbrev cW:Stmt:=inClass (top 40) 6
abbrev eS:Stmt:=inClass (top 21) 0
abbrev cx:Stmt:=inClass (top 40) 7
abbrev cE:Stmt:=inClass (top 40) 8
abbrev g9:Stmt:=inClass (top 20) 0
abbrev da:Stmt:=inClass (top 40) 9
abbrev iR:Stmt:=top 30
abbrev gW:Stmt:=top 31
abbrev jW:Stmt:=top 38
abbrev fO:Stmt:=inClass (top 40) 3
abbrev dQ:Stmt:=top 53
abbrev mx:Stmt:=top 54
abbrev iU:Stmt:=top 49
abbrev mG:Stmt:=top 50
abbrev fC:Stmt:=inClass (top 40) 10
abbrev fu:Stmt:=inClass (top 40) 13
abbrev gf:Stmt:=inClass (top 40) 14
abbrev gc:Stmt:=inClass (top 40) 15
abbrev eV:Stmt:=inClass (top 40) 16
abbrev iT:Stmt:=inClass (top 40) 18
abbrev fo:Stmt:=top 29
abbrev fP:Stmt:=inClass (top 40) 12
abbrev kE:Stmt:=top 52
abbrev jO:Stmt:=top 51
abbrev gU:Stmt:=top 58
abbrev rB:Stmt:=top 59
structure Env(w:World)(K:FG)(mg:Str->Option Value):Prop where
 k_Book:Cls K aq
 m_Book:mg "Book" = some (.ref aq)
 m_BadName:mg "BadName" = some (.ref cJ)
 m_Known:mg "Known" = some (.ref aO)
 m_NoBack:mg "NoBack" = some (.ref bX)
 m_NoDeed:mg "NoDeed" = some (.ref bZ)
 m_PlaceError:mg "PlaceError" = some (.ref cf)
 m_TooMany:mg "TooMany" = some (.ref aD)
 m_Unknown:mg "Unknown" = some (.ref aw)
 m_Used:mg "Used" = some (.ref bw)
 m_end_one:mg "end_one" = some (.ref fb)
 m_tell_row:mg "tell_row" = some (.ref dG)
 m_tell_wish:mg "tell_wish" = some (.ref eK)
 x_BadName:XO.XC K cJ
 x_Known:XO.XC K aO
 x_NoBack:XO.XC K bX
 x_NoDeed:XO.XC K bZ
 x_TooMany:XO.XC K aD
 x_Unknown:XO.XC K aw
 x_Used:XO.XC K bw
 e_Known_PlaceError:W.exmOne K (.ref aO) (.ref cf)=some true
 e_TooMany_PlaceError:W.exmOne K (.ref aD) (.ref cf)=some true
 e_Unknown_PlaceError:W.exmOne K (.ref aw) (.ref cf)=some true
 e_Unknown_Unknown:W.exmOne K (.ref aw) (.ref aw)=some true
 e_Used_PlaceError:W.exmOne K (.ref bw) (.ref cf)=some true
 i_Known_Known:W.kitAny K (.ref aO) [.ref aO]=some true
 i_Known_NoBack:W.kitAny K (.ref aO) [.ref bX]=some false
 i_Known_NoDeed:W.kitAny K (.ref aO) [.ref bZ]=some false
 i_Known_TooMany:W.kitAny K (.ref aO) [.ref aD]=some false
 i_Known_Unknown:W.kitAny K (.ref aO) [.ref aw]=some false
 i_Known_Used:W.kitAny K (.ref aO) [.ref bw]=some false
 i_TooMany_Known:W.kitAny K (.ref aD) [.ref aO]=some false
 i_TooMany_NoBack:W.kitAny K (.ref aD) [.ref bX]=some false
 i_TooMany_NoDeed:W.kitAny K (.ref aD) [.ref bZ]=some false
 i_TooMany_TooMany:W.kitAny K (.ref aD) [.ref aD]=some true
 i_TooMany_Unknown:W.kitAny K (.ref aD) [.ref aw]=some false
 i_TooMany_Used:W.kitAny K (.ref aD) [.ref bw]=some false
 i_Unknown_Known:W.kitAny K (.ref aw) [.ref aO]=some false
 i_Unknown_NoBack:W.kitAny K (.ref aw) [.ref bX]=some false
 i_Unknown_NoDeed:W.kitAny K (.ref aw) [.ref bZ]=some false
 i_Unknown_TooMany:W.kitAny K (.ref aw) [.ref aD]=some false
 i_Unknown_Unknown:W.kitAny K (.ref aw) [.ref aw]=some true
 i_Unknown_Used:W.kitAny K (.ref aw) [.ref bw]=some false
 i_Used_Known:W.kitAny K (.ref bw) [.ref aO]=some false
 i_Used_NoBack:W.kitAny K (.ref bw) [.ref bX]=some false
 i_Used_NoDeed:W.kitAny K (.ref bw) [.ref bZ]=some false
 i_Used_TooMany:W.kitAny K (.ref bw) [.ref aD]=some false
 i_Used_Unknown:W.kitAny K (.ref bw) [.ref aw]=some false
 i_Used_Used:W.kitAny K (.ref bw) [.ref bw]=some true
 xk_NoBack:W.keepIn K (.ref bX)=true
 xk_NoDeed:W.keepIn K (.ref bZ)=true
 xn_NoBack:XO.xno K bX=true
 xn_NoDeed:XO.xno K bZ=true
 xt_NoBack:W.typeIn K (.ref bX)=some (.type "type")
 xt_NoDeed:W.typeIn K (.ref bZ)=some (.type "type")
 m_DOINGS:mg "DOINGS" = some (.ref kH)
 k_DOINGS:tD w K kH ki
 m_BOUNDS:mg "BOUNDS" = some (.ref ko)
 m_ENDING_SORTS:mg "ENDING_SORTS" = some (.ref eQ)
 m_MOST:mg "MOST" = some (.ref vc)
 m_NEEDED:mg "NEEDED" = some (.ref kA)
 m_PARTS:mg "PARTS" = some (.ref nY)
 m_USERS:mg "USERS" = some (.ref ou)
 k_BOUNDS:jE w K ko kN
 k_MOST:jE w K vc jR
 k_NEEDED:jE w K kA j8
 k_PARTS:jE w K nY m7
 k_USERS:jE w K ou oK
 t_ENDING_SORTS:w5 K (.ref eQ) (.tuple [.str "wish",.str "store",.str "door",.str "rule"])=true
 n_BadName_at:cN K cJ "at"
 n_Book_done:cN K aq "done"
 n_Book_emptied_names:cN K aq "emptied_names"
 n_Book_ended:cN K aq "ended"
 n_Book_machine_names:cN K aq "machine_names"
 n_Book_ranked:cN K aq "ranked"
 n_Book_told_rows:cN K aq "told_rows"
 n_Book_wished:cN K aq "wished"
 n_Known_name:cN K aO "name"
 n_TooMany_most:cN K aD "most"
 n_Unknown_name:cN K aw "name"
 n_Used_name:cN K bw "name"
 b_abs:mg "abs" = none
 b_all:mg "all" = none
 b_bool:mg "bool" = none
 b_dict:mg "dict" = none
 b_enumerate:mg "enumerate" = none
 b_int:mg "int" = none
 b_isinstance:mg "isinstance" = none
 b_len:mg "len" = none
 b_list:mg "list" = none
 b_max:mg "max" = none
 b_repr:mg "repr" = none
 b_sorted:mg "sorted" = none
 b_str:mg "str" = none
 b_tuple:mg "tuple" = none
 b_zip:mg "zip" = none
 c_LONGEST_WORD:∃ t,mg "LONGEST_WORD" = some (.int 8 t)
 c_MOST_EDITIONS:∃ t,mg "MOST_EDITIONS" = some (.int 9 t)
 c_MOST_MACHINES:∃ t,mg "MOST_MACHINES" = some (.int 8 t)
section
variable (P:Program)(w:World)(K:FG)(mg:Str->Option Value)(base:Heap)
abbrev aat:=ZZ P w K mg base (Fn K mg "_law_bag" rW q_0) 1 q_0 gq
abbrev jK:=ZZ P w K mg base (Fn K mg "_law_take" mH q_1) 1 q_1 aR
abbrev lF:=ZZ P w K mg base (Fn K mg "_law_machines" gn q_2) 2 q_2 cC
abbrev abt:=ZZ P w K mg base (Fn K mg "_law_new" sv q_3) 1 q_3 gg
abbrev kD:=ZZ P w K mg base (Fn K mg "_law_names" kM q_4) 1 q_4 bp
abbrev yx:=ZZ P w K mg base (Fn K mg "_law_name" mw q_5) 2 q_5 dr
abbrev x9:=ZZ P w K mg base (Fn K mg "_law_move" mM q_6) 3 q_6 fc
abbrev tP:=ZZ P w K mg base (Fn K mg "_law_lacks" jP q_7) 2 q_7 dY
abbrev sN:=ZZ P w K mg base (Fn K mg "_law_users" jZ q_8) 1 q_8 bT
abbrev aba:=ZZ P w K mg base (Fn K mg "_law_due" rg q_7) 3 q_7 d5
abbrev qP:=ZZ P w K mg base (Fn K mg "is_whole" iV q_9) 1 q_9 dy
abbrev mY:=ZZ P w K mg base (Fn K mg "is_within" gO ahq) 2 ahq cR
abbrev tu:=ZZ P w K mg base (Fn K mg "is_part" ka ahy) 3 ahy d3
abbrev mO:=ZZ P w K mg base (Fn K mg "keep_fits" gR ahp) 1 ahp cQ
abbrev fK:=ZZ P w K mg base (Mf K aq "machines" "Book.machines" eC fE) 1 fE aW
abbrev hV:=ZZ P w K mg base (Mf K aq "wishes" "Book.wishes" fv fE) 1 fE bj
abbrev xG:=ZZ P w K mg base (Fn K mg "_law_told" mx ahx) 6 ahx du
abbrev qE:=ZZ P w K mg base (Fn K mg "_law_wished" iU q_7) 1 q_7 dw
abbrev xO:=ZZ P w K mg base (Fn K mg "_law_done" mG ahr) 2 ahr dv
abbrev kF:=ZZ P w K mg base (Mf K aq "groups" "Book.groups" fC fE) 1 fE b9
abbrev kz:=ZZ P w K mg base (Mf K aq "stores" "Book.stores" fu fE) 1 fE ck
abbrev lJ:=ZZ P w K mg base (Mf K aq "doors" "Book.doors" gf fE) 1 fE cA
abbrev lN:=ZZ P w K mg base (Mf K aq "rules" "Book.rules" gc fE) 1 fE cD
abbrev jf:=ZZ P w K mg base (Mf K aq "emptied" "Book.emptied" eV fE) 1 fE bP
abbrev qA:=ZZ P w K mg base (Mf K aq "log" "Book.log" iT fE) 1 fE dg
abbrev vj:=ZZ P w K mg base (Fn K mg "_law_asked" kE ahm) 4 ahm bR
abbrev uZ:=ZZ P w K mg base (Fn K mg "_law_state" jO ahs) 1 ahs bS
abbrev nv:=ZZ P w K mg base (Fn K mg "_law_unknown" gU ahA) 4 ahA bB
end
section
variable {P:Program}{w:World}{K:FG}{mg:Str->Option Value}{base:Heap}
theorem alj:(["_law_cell"]:List Str).Nodup:=by decide +kernel
theorem acY:aL aa2 q_0 (ak rW):=by walk_at "sc"
theorem adJ(E:Env w K mg)(F:Fn K mg "_law_bag" rW q_0 f fd) :
  bK P w K mg base CX0 1 f fd q_0 (dH K gq):=by
 refine bN (t:=abD) F.fn acY acp (λ cdv A outer s H E' hr=>?_) zA;refine Jd.h ?_;exact ae (av (dF (az ai (az ai (az ai (az (iP rfl (vV (own:=(["_law_cell"]:List Str)) (fr:=[]) rfl) (bM (cu (dvQ 0) cv (cw ai))) (λ _ _ _ _ _ _=>aM (i:=0) alj rfl (Or.inl rfl)) (λ _ _ _ _ _ _=>fY) (λ _ _ _ _ _ _=>mL adq aiW rfl E.b_abs ajl (az (dvQ 0) aa))) aa))))))
theorem gJ:aL xM q_1 (ak mH):=by walk_at "sc"
theorem zO(E:Env w K mg)(F:Fn K mg "_law_take" mH q_1 f fd) :
  bK P w K mg base CX0 1 f fd q_1 (dH K aR):=by
 refine bN (t:=yi) F.fn gJ yR (λ cdv A outer s H E' hr=>?_) xp;refine Jd.h ?_;exact af (aC (au (aeR hr.h) ail (aF aG aH (dvQ 0) ai) ai)
   (af (aP (i:=2) gJ.nd rfl (Or.inl rfl) ai) <|
   af (aC (au ah6 aep (aF aG aH (dvQ 0) ai) (mL eR jj rfl E.b_len je (az (aF aG aH (dvQ 0) ai) aa)))
    (ae (aP (i:=2) gJ.nd rfl (Or.inl rfl) (aF aG aH (aF aG aH (dvQ 0) ai) (aF aG aH (dvQ 0) ai))))
    ax) <|
   af (aca (dvQ 0) ai ai ajn) <|
   af (aC (au ad0 yn (dvQ 2) ai)
    (ae (fw (dvQ 2) (sf (dvQ 0) ai)))
    ax) <|
   ae (fw (cp lK iC (cp fG eA (cp fG eA (cp qM lu (aF aG aH (dvQ 0) ai) ai) (cp lK iC (dvQ 2) ai)) (cp qM lu ai (aF aG aH (dvQ 0) ai))) ai) (sf (dvQ 0) ai)))
   ax) <|
  af (aC (au afw aa3 (aF aG aH (dvQ 0) ai) ai)
   (af (aP (i:=3) gJ.nd rfl (Or.inl rfl) (cp lK iC (aF aG aH (dvQ 0) ai) (dvQ 1))) <|
   af (fw (cp acn acd (aF aG aH (dvQ 0) ai) (dvQ 1)) (sf (dvQ 0) ai)) <|
   ae (av (dvQ 3)))
   ax) <|
  af (aP (i:=4) gJ.nd rfl (Or.inl rfl) (cp lK iC (cp qM lu (cp fG eA (aF aG aH (dvQ 0) ai) ai) ai) ai)) <|
  af (aP (i:=5) gJ.nd rfl (Or.inl rfl) (cp lK iC (cp qM lu (cp lK iC (cp qM lu (dvQ 4) (dvQ 4)) ai) ai) ai)) <|
  af (aC (au afw aa3 (dvQ 1) ai)
   (ae (av (cp lK iC (cp fG eA (cp qM lu (dvQ 5) ai) (dvQ 4)) (dvQ 1))))
   ax) <|
  ae (av (cp lK iC (cp acn acd (dvQ 5) ai) (dvQ 1)))
theorem gZ:aL lD q_2 (ak gn):=by walk_at "sc"
theorem q9(E:Env w K mg)(F:Fn K mg "_law_machines" gn q_2 f fd)(z1:jK P w K mg base) :
  bK P w K mg base CX0 2 f fd q_2 (dH K cC):=by
 obtain⟨_,_,G1,O1⟩:=z1;refine bN (t:=lM aR) F.fn gZ pj (λ cdv A outer s H E' hr=>?_) mS;refine Jd.h ?_;exact af (aP (i:=1) gZ.nd rfl (Or.inl rfl) (cG (az ag (az ag (az ag (az ag (az ag (az ag (az ag (az ag aa)))))))))) <|
  af (aP (i:=2) gZ.nd rfl (Or.inl rfl) (gv O1 hr.m rfl G1.mg G1.fn.kp G1.bd (az (dvQ 0) (az ai aa)))) <|
  ae (av (cu (fL (cu (dvQ 1) (cw (dvQ 2)) cv) (cu (dvQ 1) cv (cw (dvQ 2)))) cv (cw (cp fG eA ai (gv O1 hr.m rfl G1.mg G1.fn.kp G1.bd (az (dvQ 0) (az ai aa)))))))
theorem nZ:aL pQ aht (ak eU):=by walk_at "sc"
theorem ny(E:Env w K mg)(F:Xi K cJ "BadName.__init__" eU aht f fd):bK P w K mg base CX0 1 f fd aht (k8 cJ ["at"]):=abQ F.fn nZ F.xm.xc E.n_BadName_at rfl (λ _=>rfl) rfl rfl
theorem akl:(["sign"]:List Str).Nodup:=by decide +kernel
theorem yM:aL tw q_9 (ak gE):=by walk_at "sc"
theorem zj(E:Env w K mg)(F:Fn K mg "is_word" gE q_9 f fd) :
  bK P w K mg base CX0 1 f fd q_9 (dH K bD):=by
 refine bN (t:=uV) F.fn yM we (λ cdv A outer s H E' hr=>?_) uB;refine Jd.h ?_;exact af (aC (eE (hW (dO (cU (mL fN jD rfl E.b_isinstance cy (az (dvQ 0) (az (gM rfl E.b_str abO) aa))))) (ia (dO (yB oJ jz oJ jz ai (mL eR jj rfl E.b_len je (az (dvQ 0) aa)) (km rfl (E.c_LONGEST_WORD).choose_spec))))))
   (ae (av jJ))
   ax) <|
  ae (av (mL (sT rfl) aei rfl E.b_all ael (az (iP rfl (vV (own:=(["sign"]:List Str)) (fr:=[]) rfl) (bM (dvQ 0)) (λ _ _ _ _ _ _=>aM (i:=0) akl rfl (Or.inl rfl)) (λ _ _ _ _ _ _=>fY) (λ _ _ _ _ _ _=>tR oJ jz oJ jz ag (dvQ 0) ag)) aa)))
theorem fV:aL jk ahw (ak eW):=by walk_at "sc"
theorem oz(E:Env w K mg)(F:Fn K mg "refuse_names" eW ahw f fd)
  (G3:Xi K cJ "BadName.__init__" eU aht f3 fd3)(O3:bK P w K mg base CX0 1 f3 fd3 aht (k8 cJ ["at"]))
  (G4:Fn K mg "is_word" gE q_9 f4 fd4)(O4:bK P w K mg base CX0 1 f4 fd4 q_9 (dH K bD)) :
  bK P w K mg base (CXE P w) 3 f fd ahw (eN K bQ):=by
 refine gQ (t:=λ Ex=>jd Ex bD) F.fn fV l5 (λ cdv A outer s H E' Ex hr hE hP=>?_) lj;refine Jd.h ?_;exact af (aC (eE (hW (dO (cU (mL fN jD rfl E.b_isinstance cy (az (dvQ 0) (az (gM rfl E.b_list fk) aa))))) (ia (dO (pY (dvQ 0))))))
   (ae (dB hE G3.xm O3 hr.m rfl E.m_BadName G3.bd (az ai aa)))
   ax) <|
  ae (jT hP rfl (acg rfl E.b_enumerate (az (dvQ 0) aa)) (gk rfl (bb (aM (i:=1) fV.nd rfl (Or.inl rfl)) (bb (aM (i:=2) fV.nd rfl (Or.inl rfl)) eh)))
   (ae (aC (eE (hW (au ad0 yn (dvQ 1) (km rfl (E.c_MOST_MACHINES).choose_spec)) (hW (dO (cU (gv O4 hr.m rfl G4.mg G4.fn.kp G4.bd (az (dvQ 2) aa)))) (ia (au (aeF hr.h) abl (dvQ 2) (cu (dvQ 0) cv (cw (dvQ 1))))))))
    (ae (dB hE G3.xm O3 hr.m rfl E.m_BadName G3.bd (az (dvQ 1) aa)))
    ax)))
theorem uN:aL ni ahG (ak dP):=by walk_at "sc"
theorem uJ(E:Env w K mg)(F:Mi K aq "Book.__init__" dP ahG f fd)
  (G5:Fn K mg "refuse_names" eW ahw f5 fd5)(O5:bK P w K mg base (CXE P w) 3 f5 fd5 ahw (eN K bQ)) :
  bK P w K mg base (CXE P w) 4 f fd ahG (eN K cO):=by
 refine gQ (t:=λ Ex=>oV Ex bQ) F.fn uN rX (λ cdv A outer s H E' Ex hr hE hP=>?_) pH;refine Jd.h ?_;exact af (bz (amk hE O5 hr.m rfl G5.mg G5.fn.kp G5.bd (az (dvQ 1) aa))) <|
  af (hJ E.k_Book E.n_Book_machine_names (dvQ 0) (cH (zy bO df rfl E.b_list fk (az (dvQ 1) aa)))) <|
  af (hJ E.k_Book E.n_Book_emptied_names (dvQ 0) (dF aa)) <|
  af (hJ E.k_Book E.n_Book_ranked (dvQ 0) (dF aa)) <|
  af (hJ E.k_Book E.n_Book_wished (dvQ 0) qG) <|
  af (hJ E.k_Book E.n_Book_ended (dvQ 0) (dF aa)) <|
  af (hJ E.k_Book E.n_Book_told_rows (dvQ 0) (gH (trs:=[(dS "group",fX aI),(dS "store",fX aI),(dS "door",fX aI),(dS "rule",fX aI)]) (aK ag (dF aa) (aK ag (dF aa) (aK ag (dF aa) (aK ag (dF aa) d9)))))) <|
  ae (hJ E.k_Book E.n_Book_done (dvQ 0) (dF aa))
theorem yu:aL aco q_3 (ak sv):=by walk_at "sc"
theorem adF(E:Env w K mg)(F:Fn K mg "_law_new" sv q_3 f fd) :
  bK P w K mg base CX0 1 f fd q_3 (dH K gg):=by
 refine bN (t:=aa7) F.fn yu abY (λ cdv A outer s H E' hr=>?_) zz;refine Jd.h ?_;exact af (aP (i:=1) yu.nd rfl (Or.inl rfl) (gH (trs:=[(dS "machine",gX (dCB dA (ah (aj 0) aI))),(dS "emptied",jF aI),(dS "ranked",jF aI),(dS "data",rh),(dS "past",fX aI),(dS "log",fX aI)]) (aK ag (cH (zy bO df rfl E.b_list fk (az (dvQ 0) aa))) (aK ag (cG aa) (aK ag (cG aa) (aK ag qG (aK ag (dF aa) (aK ag (dF aa) d9)))))))) <|
  af (bz (jV (dvQ 1) (kg (trs:=[(dS "group",jF aI),(dS "store",jF aI),(dS "door",jF aI),(dS "rule",jF aI)]) (aK ag (cG aa) (aK ag (cG aa) (aK ag (cG aa) (aK ag (cG aa) d9))))))) <|
  ae (av (dvQ 1))
theorem alc:(["_law_row"]:List Str).Nodup:=by decide +kernel
theorem yW:aL sV q_4 (ak kM):=by walk_at "sc"
theorem yS(E:Env w K mg)(F:Fn K mg "_law_names" kM q_4 f fd) :
  bK P w K mg base CX0 1 f fd q_4 (dH K bp):=by
 refine bN (t:=uD) F.fn yW wL (λ cdv A outer s H E' hr=>?_) uY;refine Jd.h ?_;exact af (aC (au (bG hr.h) aX (dvQ 1) ag)
   (ae (av (ay (aZ hr) (dvQ 0) ag)))
   ax) <|
  af (aC (au (bG hr.h) aX (dvQ 1) ag)
   (ae (av (ay (aZ hr) (dvQ 0) ag)))
   ax) <|
  ae (av (iP rfl (vV (own:=(["_law_row"]:List Str)) (fr:=[]) rfl) (bM (ay (aZ hr) (dvQ 0) (dvQ 1))) (λ _ _ _ _ _ _=>aM (i:=0) alc rfl (Or.inl rfl)) (λ _ _ _ _ _ _=>fY) (λ _ _ _ _ _ _=>aF aG aH (dvQ 0) ai)))
theorem uT:aL xQ q_5 (ak mw):=by walk_at "sc"
theorem aaX(E:Env w K mg)(F:Fn K mg "_law_name" mw q_5 f fd)(z8:kD P w K mg base)(z1:jK P w K mg base) :
  bK P w K mg base CX0 2 f fd q_5 (dH K dr):=by
 obtain⟨_,_,G8,O8⟩:=z8;obtain⟨_,_,G1,O1⟩:=z1;refine bN (t:=yz bp aR) F.fn uT zb (λ cdv A outer s H E' hr=>?_) vW;refine Jd.h ?_;exact af (aP (i:=3) uT.nd rfl (Or.inl rfl) (gv O8 hr.m rfl G8.mg G8.fn.kp G8.bd (az (dvQ 1) (az (dvQ 2) aa)))) <|
  af (aC (eE (eu (au (iI hr.h) fT (dvQ 3) (cG aa)) (dq (au afw aa3 (gv O1 hr.m rfl G1.mg G1.fn.kp G1.bd (az (dvQ 0) (az ai aa))) ai))))
   (ae (av (aF aG aH (dvQ 3) (gv O1 hr.m rfl G1.mg G1.fn.kp G1.bd (az (dvQ 0) (az (mL eR jj rfl E.b_len je (az (dvQ 3) aa)) aa))))))
   ax) <|
  ae (av (aF aG aH ag (gv O1 hr.m rfl G1.mg G1.fn.kp G1.bd (az (dvQ 0) (az ai aa)))))
theorem kO:aL xJ q_6 (ak mM):=by walk_at "sc"
theorem zS(E:Env w K mg)(F:Fn K mg "_law_move" mM q_6 f fd)(z1:jK P w K mg base)(z9:yx P w K mg base) :
  bK P w K mg base CX0 3 f fd q_6 (dH K fc):=by
 obtain⟨_,_,G1,O1⟩:=z1;obtain⟨_,_,G9,O9⟩:=z9;refine bN (t:=yb aR dr) F.fn kO yI (λ cdv A outer s H E' hr=>?_) wF;refine Jd.h ?_;exact af (aP (i:=2) kO.nd rfl (Or.inl rfl) (gv O1 hr.m rfl G1.mg G1.fn.kp G1.bd (az (dvQ 0) (az ai aa)))) <|
  af (aC (au ah6 aep (dvQ 2) ai)
   (af (aP (i:=3) kO.nd rfl (Or.inl rfl) (aF aG aH (cG (az ag (az ag (az ag (az ag aa))))) (dvQ 2))) <|
   ae (av (bc (az ag (az (dvQ 3) (az (gv O9 hr.m rfl G9.mg G9.fn.kp G9.bd (az (dvQ 0) (az (dvQ 1) (az (dvQ 3) aa)))) aa))))))
   ax) <|
  af (aP (i:=4) kO.nd rfl (Or.inl rfl) (aF aG aH ag (gv O1 hr.m rfl G1.mg G1.fn.kp G1.bd (az (dvQ 0) (az ai aa))))) <|
  af (aC (au (bG hr.h) aX (dvQ 2) ai)
   (ae (av (bc (az ag (az (dvQ 4) (az (aF aG aH (cG (az ag (az ag aa))) (gv O1 hr.m rfl G1.mg G1.fn.kp G1.bd (az (dvQ 0) (az ai aa)))) (az ai (az ai (az ai (az ai aa))))))))))
   ax) <|
  af (aC (au (bG hr.h) aX (dvQ 2) ai)
   (ae (av (bc (az ag (az (dvQ 4) (az (gv O9 hr.m rfl G9.mg G9.fn.kp G9.bd (az (dvQ 0) (az (dvQ 1) (az ag aa)))) aa))))))
   ax) <|
  af (aC (au (bG hr.h) aX (dvQ 2) ai)
   (ae (av (bc (az ag (az (dvQ 4) (az (gv O9 hr.m rfl G9.mg G9.fn.kp G9.bd (az (dvQ 0) (az (dvQ 1) (az ag aa)))) (az (cp fG eA ai (gv O1 hr.m rfl G1.mg G1.fn.kp G1.bd (az (dvQ 0) (az ai aa)))) (az ai (az ai aa)))))))))
   ax) <|
  ae (av (bc (az ag (az (dvQ 4) (az (gv O9 hr.m rfl G9.mg G9.fn.kp G9.bd (az (dvQ 0) (az (dvQ 1) (az ag aa)))) aa)))))
theorem gI:aL vk q_7 (ak jP):=by walk_at "sc"
theorem yD(E:Env w K mg)(F:Fn K mg "_law_lacks" jP q_7 f fd)(z8:kD P w K mg base) :
  bK P w K mg base CX0 2 f fd q_7 (dH K dY):=by
 obtain⟨_,_,G8,O8⟩:=z8;refine bN (t:=vb bp) F.fn gI wZ (λ cdv A outer s H E' hr=>?_) uf;refine Jd.h ?_;exact af (aP (i:=2) gI.nd rfl (Or.inl rfl) (gH (trs:=[(dS "store",eo (ah (dS "wish") (ah (dI 2) aI))),(dS "door",eo (ah (dS "wish") (ah (dI 2) aI))),(dS "rule",eo (ah (dS "door") (ah (dI 2) aI))),(dS "empty",eo (ah (dS "machine") (ah (dI 1) aI)))]) (aK ag (bc (az ag (az ai aa))) (aK ag (bc (az ag (az ai aa))) (aK ag (bc (az ag (az ai aa))) (aK ag (bc (az ag (az ai aa))) d9)))))) <|
  af (bz (jV (dvQ 2) (kg (trs:=[(dS "fill",eo (ah (dS "machine") (ah (dI 1) aI))),(dS "copies",eo (ah (dS "wish") (ah (dI 1) aI))),(dS "edition",eo (ah (dS "wish") (ah (dI 1) aI)))]) (aK ag (bc (az ag (az ai aa))) (aK ag (bc (az ag (az ai aa))) (aK ag (bc (az ag (az ai aa))) d9)))))) <|
  af (bz (jV (dvQ 2) (kg (trs:=[(dS "back",eo (ah (dS "wish") (ah (dI 1) aI))),(dS "rank",eo (ah (dS "wish") (ah (dI 1) aI)))]) (aK ag (bc (az ag (az ai aa))) (aK ag (bc (az ag (az ai aa))) d9))))) <|
  af (aC (au (bG hr.h) aX (aF aG aH (dvQ 1) ai) ag)
   (ae (yl (i:=3) (j:=4) rfl gI.nd rfl rfl (by decide) rfl rfl (az (aF aG aH (dvQ 1) ai) (az ai aa))))
   (ae (aC (xZ (aZ hr) (aF aG aH (dvQ 1) ai) (dvQ 2))
    (ae (fw (ay (aZ hr) (dvQ 2) (aF aG aH (dvQ 1) ai)) (gk rfl (bb (aM (i:=3) gI.nd rfl (Or.inl rfl)) (bb (aM (i:=4) gI.nd rfl (Or.inl rfl)) eh)))))
    (ae (av fI))))) <|
  af (aC (au gz (gu false) (aF aG aH (dvQ 1) (dvQ 4)) (gv O8 hr.m rfl G8.mg G8.fn.kp G8.bd (az (dvQ 0) (az (dvQ 3) aa))))
   (ae (av fI))
   ax) <|
  ae (av (aF aG aH (dvQ 1) (dvQ 4)))
theorem akG:(["_law_row", "_law_name_here"]:List Str).Nodup:=by decide +kernel
theorem akm:(["_law_row", "_law_name_here"]:List Str).Nodup:=by decide +kernel
theorem yQ:aL vw q_8 (ak jZ):=by walk_at "sc"
theorem yA(E:Env w K mg)(F:Fn K mg "_law_users" jZ q_8 f fd) :
  bK P w K mg base CX0 1 f fd q_8 (dH K bT):=by
 refine bN (t:=uQ) F.fn yQ wD (λ cdv A outer s H E' hr=>?_) ug;refine Jd.h ?_;exact af (aC (au (bG hr.h) aX (dvQ 1) ag)
   (ae (av (iP rfl (vV (own:=(["_law_row"]:List Str)) (fr:=[2]) rfl) (bM (fL (ay (aZ hr) (dvQ 0) ag) (ay (aZ hr) (dvQ 0) ag))) (λ _ _ _ _ _ _=>aM (i:=0) akG rfl (Or.inl rfl)) (λ _ _ _ _ _ _=>e8 (au (bG hr.h) aX (aF aG aH (dvQ 0) ai) (dvQ 1))) (λ _ _ _ _ _ _=>aF aG aH (dvQ 0) ai))))
   ax) <|
  af (aC (au (bG hr.h) aX (dvQ 1) ag)
   (ae (av (iP rfl (vV (own:=(["_law_row"]:List Str)) (fr:=[2]) rfl) (bM (ay (aZ hr) (dvQ 0) ag)) (λ _ _ _ _ _ _=>aM (i:=0) akm rfl (Or.inl rfl)) (λ _ _ _ _ _ _=>e8 (au (bG hr.h) aX (aF aG aH (dvQ 0) ai) (dvQ 1))) (λ _ _ _ _ _ _=>aF aG aH (dvQ 0) ai))))
   ax) <|
  ae (av (cG aa))
theorem mz:aL aaB q_7 (ak rg):=by walk_at "sc"
theorem aeb(E:Env w K mg)(F:Fn K mg "_law_due" rg q_7 f fd)(z11:tP P w K mg base)(z8:kD P w K mg base)(z12:sN P w K mg base) :
  bK P w K mg base CX0 3 f fd q_7 (dH K d5):=by
 obtain⟨_,_,G11,O11⟩:=z11;obtain⟨_,_,G8,O8⟩:=z8;obtain⟨_,_,G12,O12⟩:=z12;refine bN (t:=abJ dY bp bT) F.fn mz abr (λ cdv A outer s H E' hr=>?_) zq;refine Jd.h ?_;exact af (aP (i:=2) mz.nd rfl (Or.inl rfl) (aF aG aH (dvQ 1) ai)) <|
  af (aP (i:=3) mz.nd rfl (Or.inl rfl) (gv O11 hr.m rfl G11.mg G11.fn.kp G11.bd (az (dvQ 0) (az (dvQ 1) aa)))) <|
  af (aC (au afE adH (dvQ 3) fI)
   (ae (av (bc (az ag (az (dvQ 3) aa)))))
   ax) <|
  af (aP (i:=4) mz.nd rfl (Or.inl rfl) (gH (trs:=[(dS "group",dI 4),(dS "wish",dI 8),(dS "store",dI 4),(dS "door",dI 6),(dS "rule",dI 4)]) (aK ag ai (aK ag ai (aK ag ai (aK ag ai (aK ag ai d9))))))) <|
  af (aC (xZ (aZ hr) (dvQ 2) (dvQ 4))
   (af (aC (eE (hW (au gz (gu false) (aF aG aH (dvQ 1) ai) (gv O8 hr.m rfl G8.mg G8.fn.kp G8.bd (az (dvQ 0) (az (dvQ 2) aa)))) (ia (eE (eu (au (bG hr.h) aX (dvQ 2) ag) (dq (au gz (gu false) (aF aG aH (dvQ 1) ai) (ay (aZ hr) (dvQ 0) ag))))))))
    (ae (av (bc (az ag (az (aF aG aH (dvQ 1) ai) aa)))))
    ax) <|
   ae (aC (au (bG hr.h) aX (mL eR jj rfl E.b_len je (az (gv O8 hr.m rfl G8.mg G8.fn.kp G8.bd (az (dvQ 0) (az (dvQ 2) aa))) aa)) (ay (aZ hr) (dvQ 4) (dvQ 2)))
    (ae (av (bc (az ag (az (ay (aZ hr) (dvQ 4) (dvQ 2)) aa)))))
    ax))
   ax) <|
  af (aC (eE (eu (au (bG hr.h) aX (dvQ 2) ag) (dq (au (bG hr.h) aX (mL eR jj rfl E.b_len je (az (ay (aZ hr) (ay (aZ hr) (ay (aZ hr) (dvQ 0) ag) (aF aG aH (dvQ 1) ai)) ag) aa)) ai))))
   (ae (av (bc (az ag (az ai aa)))))
   ax) <|
  af (aC (eE (eu (au (bG hr.h) aX (dvQ 2) ag) (dq (au (bG hr.h) aX (ay (aZ hr) (ay (aZ hr) (ay (aZ hr) (dvQ 0) ag) (aF aG aH (dvQ 1) ai)) ag) ai))))
   (ae (av (bc (az ag (az fI aa)))))
   ax) <|
  af (aC (eE (eu (au (bG hr.h) aX (dvQ 2) ag) (dq (au (iI hr.h) fT (gv O12 hr.m rfl G12.mg G12.fn.kp G12.bd (az (dvQ 0) (az (aF aG aH (dvQ 1) ai) (az (aF aG aH (dvQ 1) ai) aa)))) (cG aa)))))
   (ae (av (bc (az ag (az (aF aG aH (gv O12 hr.m rfl G12.mg G12.fn.kp G12.bd (az (dvQ 0) (az (aF aG aH (dvQ 1) ai) (az (aF aG aH (dvQ 1) ai) aa)))) ai) aa)))))
   ax) <|
  ae (av (bc (az ag (az fI aa))))
theorem vT:aL qg q_9 (ak iV):=by walk_at "sc"
theorem wQ(E:Env w K mg)(F:Fn K mg "is_whole" iV q_9 f fd) :
  bK P w K mg base CX0 1 f fd q_9 (dH K dy):=by
 refine bN (t:=p6) F.fn vT vd (λ cdv A outer s H E' hr=>?_) qZ;refine Jd.h ?_;exact ae (av (xf (mL fN jD rfl E.b_isinstance cy (az (dvQ 0) (az (gM rfl E.b_int ai3) aa))) (qU (afn (mL fN jD rfl E.b_isinstance cy (az (dvQ 0) (az (gM rfl E.b_bool agD) aa)))))))
theorem vy:aL oG ahq (ak gO):=by walk_at "sc"
theorem sW(E:Env w K mg)(F:Fn K mg "is_within" gO ahq f fd)(z14:qP P w K mg base) :
  bK P w K mg base CX0 2 f fd ahq (dH K cR):=by
 obtain⟨_,_,G14,O14⟩:=z14;refine bN (t:=nL dy) F.fn vy rN (λ cdv A outer s H E' hr=>?_) pS;refine Jd.h ?_;exact ae (av (xf (gv O14 hr.m rfl G14.mg G14.fn.kp G14.bd (az (dvQ 0) aa)) (qU (tR oJ jz oJ jz (dvQ 1) (dvQ 0) (dvQ 2)))))
theorem la:aL vg ahy (ak ka):=by walk_at "sc"
theorem zC(E:Env w K mg)(F:Fn K mg "is_part" ka ahy f fd)
  (G4:Fn K mg "is_word" gE q_9 f4 fd4)(O4:bK P w K mg base CX0 1 f4 fd4 q_9 (dH K bD))(z15:mY P w K mg base) :
  bK P w K mg base CX0 3 f fd ahy (dH K d3):=by
 obtain⟨_,_,G15,O15⟩:=z15;refine bN (t:=uR bD cR) F.fn la wX (λ cdv A outer s H E' hr=>?_) uk;refine Jd.h ?_;exact af (aC (au (bG hr.h) aX (dvQ 0) ag)
   (ae (av (gv O4 hr.m rfl G4.mg G4.fn.kp G4.bd (az (dvQ 1) aa))))
   ax) <|
  af (aC (au (bG hr.h) aX (dvQ 0) ag)
   (ae (av (xf (mL fN jD rfl E.b_isinstance cy (az (dvQ 1) (az (gM rfl E.b_str abO) aa))) (qU (q8 (aeF hr.h) abl (dvQ 1) (abv rfl E.m_ENDING_SORTS E.t_ENDING_SORTS))))))
   ax) <|
  af (fw (mZ rfl E.m_BOUNDS E.k_BOUNDS (dvQ 0)) (gk rfl (bb (aM (i:=2) la.nd rfl (Or.inl rfl)) (bb (aM (i:=3) la.nd rfl (Or.inl rfl)) eh)))) <|
  ae (av (gv O15 hr.m rfl G15.mg G15.fn.kp G15.bd (az (dvQ 1) (az (dvQ 2) (az (dvQ 3) aa)))))
theorem iG:aL oe ahp (ak gR):=by walk_at "sc"
theorem tm(E:Env w K mg)(F:Fn K mg "keep_fits" gR ahp f fd) :
  bK P w K mg base CX0 1 f fd ahp (dH K cQ):=by
 refine bN (t:=nr) F.fn iG r9 (λ cdv A outer s H E' hr=>?_) oZ;refine Jd.h ?_;exact af (aP (i:=2) iG.nd rfl (Or.inl rfl) (aF aG aH (dvQ 1) (cp fG eA (t7 hr (dvQ 0) ag) ai))) <|
  af (aP (i:=3) iG.nd rfl (Or.inl rfl) (aF aG aH (dvQ 1) (cp fG eA (t7 hr (dvQ 0) ag) ai))) <|
  ae (av (q8 oJ jz (dvQ 3) (mL (abo rfl) afD rfl E.b_max ai5 (az (cp aeE aaK (dvQ 2) ai) (az ai aa)))))
theorem i9:aL tU q_9 (ak jN):=by walk_at "sc"
theorem yX(E:Env w K mg)(F:Fn K mg "is_deed" jN q_9 f fd)(z16:tu P w K mg base)(z17:mO P w K mg base) :
  bK P w K mg base CX0 4 f fd q_9 (dH K dZ):=by
 obtain⟨_,_,G16,O16⟩:=z16;obtain⟨_,_,G17,O17⟩:=z17;refine bN (t:=uH d3 cQ) F.fn i9 vR (λ cdv A outer s H E' hr=>?_) vq;refine Jd.h ?_;exact af (aC (eE (hW (dO (cU (mL fN jD rfl E.b_isinstance cy (az (dvQ 0) (az (gM rfl E.b_tuple xR) aa))))) (hW (dO (pY (dvQ 0))) (ia (dO (cU (mL fN jD rfl E.b_isinstance cy (az (aF aG aH (dvQ 0) ai) (az (gM rfl E.b_str abO) aa)))))))))
   (ae (av jJ))
   ax) <|
  af (aP (i:=1) i9.nd rfl (Or.inl rfl) (adO rfl E.m_PARTS E.k_PARTS (aF aG aH (dvQ 0) ai))) <|
  af (aC (eE (hW (au aek abw (dvQ 1) fI) (ia (au (iI hr.h) fT (mL eR jj rfl E.b_len je (az (dvQ 0) aa)) (cp fG eA (mL eR jj rfl E.b_len je (az (dvQ 1) aa)) ai)))))
   (ae (av jJ))
   ax) <|
  af (jT PassesOwn.never rfl (abz rfl E.b_zip (az (dvQ 1) (az (cu (dvQ 0) (cw ai) cv) aa))) (gk rfl (bb (aM (i:=2) i9.nd rfl (Or.inl rfl)) (bb (aM (i:=3) i9.nd rfl (Or.inl rfl)) eh)))
   (ae (aC (dO (cU (gv O16 hr.m rfl G16.mg G16.fn.kp G16.bd (az (dvQ 2) (az (dvQ 3) aa)))))
    (ae (av jJ))
    ax))) <|
  ae (av (ah3 (q8 (ab3 hr.h) zH ag (dvQ 1)) (qU (gv O17 hr.m rfl G17.mg G17.fn.kp G17.bd (az (dvQ 1) (az (dvQ 0) aa))))))
theorem ml:aL iD fE (ak eC):=by walk_at "sc"
theorem l8(E:Env w K mg)(F:Mf K aq "machines" "Book.machines" eC fE f fd) :
  bK P w K mg base CX0 1 f fd fE (dH K aW):=by
 refine bN (t:=iM) F.fn ml kU (λ cdv A outer s H E' hr=>?_) jI;refine Jd.h ?_;exact ae (av (zy bO df rfl E.b_list fk (az (bY E.k_Book E.n_Book_machine_names (dvQ 0)) aa)))
theorem pF:aL j7 fE (ak fv):=by walk_at "sc"
theorem o8(E:Env w K mg)(F:Mf K aq "wishes" "Book.wishes" fv fE f fd) :
  bK P w K mg base CX0 1 f fd fE (dH K bj):=by
 refine bN (t:=jS) F.fn pF oh (λ cdv A outer s H E' hr=>?_) lW;refine Jd.h ?_;exact ae (av (zy bO df rfl E.b_list fk (az (bY E.k_Book E.n_Book_ranked (dvQ 0)) aa)))
theorem akt:(["row"]:List Str).Nodup:=by decide +kernel
theorem mn:aL iF acx (ak cK):=by walk_at "sc"
theorem lX(E:Env w K mg)(F:Mf K aq "names_of" "Book.names_of" cK acx f fd)(z19:fK P w K mg base)(z20:hV P w K mg base) :
  bK P w K mg base CX0 2 f fd acx (dH K aE):=by
 obtain⟨_,_,G19,O19⟩:=z19;obtain⟨_,_,G20,O20⟩:=z20;refine bN (t:=iK aW bj) F.fn mn kT (λ cdv A outer s H E' hr=>?_) jX;refine Jd.h ?_;exact af (aC (au (bG hr.h) aX (dvQ 1) ag)
   (ae (av (dh (dvQ 0) E.k_Book G19.me O19 hr.m G19.bd)))
   ax) <|
  af (aC (au (bG hr.h) aX (dvQ 1) ag)
   (ae (av (dh (dvQ 0) E.k_Book G20.me O20 hr.m G20.bd)))
   ax) <|
  ae (av (qF (iP rfl (vV (own:=(["row"]:List Str)) (fr:=[]) rfl) (jB (ay (aZ hr) (bY E.k_Book E.n_Book_told_rows (dvQ 0)) (dvQ 1))) (λ _ _ _ _ _ _=>aM (i:=0) akt rfl (Or.inl rfl)) (λ _ _ _ _ _ _=>fY) (λ _ _ _ _ _ _=>aF aG aH (dvQ 0) ai))))
theorem oR:aL pB kR (ak dM):=by walk_at "sc"
theorem oN(E:Env w K mg)(F:Xi K aw "Unknown.__init__" dM kR f fd):bK P w K mg base CX0 1 f fd kR (k8 aw ["name"]):=abQ F.fn oR F.xm.xc E.n_Unknown_name rfl (λ _=>rfl) rfl rfl
theorem bE:aL ff jG (ak cB):=by walk_at "sc"
theorem iu(E:Env w K mg)(F:Mf K aq "refuse_unknown" "Book.refuse_unknown" cB jG f fd)
  (G21:Mf K aq "names_of" "Book.names_of" cK acx f21 fd21)(O21:bK P w K mg base CX0 2 f21 fd21 acx (dH K aE))
  (G22:Xi K aw "Unknown.__init__" dM kR f22 fd22)(O22:bK P w K mg base CX0 1 f22 fd22 kR (k8 aw ["name"])) :
  bK P w K mg base (CXE P w) 3 f fd jG (eN K aU):=by
 refine gQ (t:=λ Ex=>eX Ex aE) F.fn bE hB (λ cdv A outer s H E' Ex hr hE hP=>?_) gC;refine Jd.h ?_;exact af (aC (au (bG hr.h) aX (aF aG aH (dvQ 1) ai) ag)
   (ae (fw (cu (dvQ 1) (cw ai) cv) (gk rfl (bb (aM (i:=2) bE.nd rfl (Or.inl rfl)) (bb (aM (i:=3) bE.nd rfl (Or.inl rfl)) eh)))))
   (ae (aC (rU rfl E.m_NEEDED E.k_NEEDED (aF aG aH (dvQ 1) ai))
    (af (fw (mZ rfl E.m_NEEDED E.k_NEEDED (aF aG aH (dvQ 1) ai)) (gk rfl (bb (aM (i:=2) bE.nd rfl (Or.inl rfl)) (bb (aM (i:=4) bE.nd rfl (Or.inl rfl)) eh)))) <|
    ae (aP (i:=3) bE.nd rfl (Or.inl rfl) (aF aG aH (dvQ 1) (dvQ 4))))
    (ae tT)))) <|
  ae (aC (au lB (gu true) (dvQ 3) (qV (dvQ 0) E.k_Book G21.me O21 hr.m G21.bd (az (dvQ 2) aa)))
   (ae (dB hE G22.xm O22 hr.m rfl E.m_Unknown G22.bd (az (dvQ 3) aa)))
   ax)
theorem rG:aL uL kR (ak gh):=by walk_at "sc"
theorem rD(E:Env w K mg)(F:Xi K aO "Known.__init__" gh kR f fd):bK P w K mg base CX0 1 f fd kR (k8 aO ["name"]):=abQ F.fn rG F.xm.xc E.n_Known_name rfl (λ _=>rfl) rfl rfl
theorem fm:aL fF jG (ak cW):=by walk_at "sc"
theorem jb(E:Env w K mg)(F:Mf K aq "refuse_known" "Book.refuse_known" cW jG f fd)
  (G21:Mf K aq "names_of" "Book.names_of" cK acx f21 fd21)(O21:bK P w K mg base CX0 2 f21 fd21 acx (dH K aE))
  (G24:Xi K aO "Known.__init__" gh kR f24 fd24)(O24:bK P w K mg base CX0 1 f24 fd24 kR (k8 aO ["name"])) :
  bK P w K mg base (CXE P w) 3 f fd jG (eN K bo):=by
 refine gQ (t:=λ Ex=>fH Ex aE) F.fn fm iB (λ cdv A outer s H E' Ex hr hE hP=>?_) ir;refine Jd.h ?_;exact af (yl (i:=2) (j:=3) rfl fm.nd rfl rfl (by decide) rfl rfl (az (aF aG aH (dvQ 1) ai) (az (aF aG aH (dvQ 1) ai) aa))) <|
  af (aC (eE (eu (rU rfl E.m_MOST E.k_MOST (dvQ 2)) (dq (au gz (gu false) (dvQ 3) (qV (dvQ 0) E.k_Book G21.me O21 hr.m G21.bd (az (dvQ 2) aa))))))
   (ae (dB hE G24.xm O24 hr.m rfl E.m_Known G24.bd (az (dvQ 3) aa)))
   ax) <|
  ae (aC (eE (eu (au (bG hr.h) aX (dvQ 2) ag) (dq (au gz (gu false) (dvQ 3) (bY E.k_Book E.n_Book_ended (dvQ 0))))))
   (ae (dB hE G24.xm O24 hr.m rfl E.m_Known G24.bd (az (dvQ 3) aa)))
   ax)
theorem nV:aL pf ahH (ak eS):=by walk_at "sc"
theorem nS(E:Env w K mg)(F:Xi K aD "TooMany.__init__" eS ahH f fd):bK P w K mg base CX0 1 f fd ahH (k8 aD ["most"]):=abQ F.fn nV F.xm.xc E.n_TooMany_most rfl (λ _=>rfl) rfl rfl
theorem d6:aL eD jG (ak cx):=by walk_at "sc"
theorem gV(E:Env w K mg)(F:Mf K aq "refuse_too_many" "Book.refuse_too_many" cx jG f fd)
  (G21:Mf K aq "names_of" "Book.names_of" cK acx f21 fd21)(O21:bK P w K mg base CX0 2 f21 fd21 acx (dH K aE))
  (G26:Xi K aD "TooMany.__init__" eS ahH f26 fd26)(O26:bK P w K mg base CX0 1 f26 fd26 ahH (k8 aD ["most"])) :
  bK P w K mg base (CXE P w) 3 f fd jG (eN K aS):=by
 refine gQ (t:=λ Ex=>eJ Ex aE) F.fn d6 gK (λ cdv A outer s H E' Ex hr hE hP=>?_) gw;refine Jd.h ?_;exact af (aP (i:=2) d6.nd rfl (Or.inl rfl) (aF aG aH (dvQ 1) ai)) <|
  af (aC (eE (eu (rU rfl E.m_MOST E.k_MOST (dvQ 2)) (dq (au ad0 yn (mL eR jj rfl E.b_len je (az (qV (dvQ 0) E.k_Book G21.me O21 hr.m G21.bd (az (dvQ 2) aa)) aa)) (mZ rfl E.m_MOST E.k_MOST (dvQ 2))))))
   (ae (dB hE G26.xm O26 hr.m rfl E.m_TooMany G26.bd (az (mZ rfl E.m_MOST E.k_MOST (dvQ 2)) aa)))
   ax) <|
  ae (aC (eE (eu (au (bG hr.h) aX (dvQ 2) ag) (dq (au ad0 yn (mL eR jj rfl E.b_len je (az (ay (aZ hr) (ay (aZ hr) (bY E.k_Book E.n_Book_wished (dvQ 0)) (aF aG aH (dvQ 1) ai)) ag) aa)) (km rfl (E.c_MOST_EDITIONS).choose_spec)))))
   (ae (dB hE G26.xm O26 hr.m rfl E.m_TooMany G26.bd (az (km rfl (E.c_MOST_EDITIONS).choose_spec) aa)))
   ax)
theorem iw:aL eZ jG (ak cE):=by walk_at "sc"
theorem iq(E:Env w K mg)(F:Mf K aq "refuse_no_back" "Book.refuse_no_back" cE jG f fd) :
  bK P w K mg base (CXE P w) 1 f fd jG (eN K aV):=by
 refine gQ (t:=λ Ex=>e9 Ex) F.fn iw gL (λ cdv A outer s H E' Ex hr hE hP=>?_) gD;refine Jd.h ?_;exact ae (aC (eE (eu (au (bG hr.h) aX (aF aG aH (dvQ 1) ai) ag) (dq (au (bG hr.h) aX (ay (aZ hr) (ay (aZ hr) (bY E.k_Book E.n_Book_wished (dvQ 0)) (aF aG aH (dvQ 1) ai)) ag) ai))))
   (ae (oB hE E.x_NoBack E.xn_NoBack E.xt_NoBack E.xk_NoBack hr rfl E.m_NoBack (az ag aa)))
   ax)
theorem u6:aL vH kR (ak g9):=by walk_at "sc"
theorem uS(E:Env w K mg)(F:Xi K bw "Used.__init__" g9 kR f fd):bK P w K mg base CX0 1 f fd kR (k8 bw ["name"]):=abQ F.fn u6 F.xm.xc E.n_Used_name rfl (λ _=>rfl) rfl rfl
theorem dX:aL f9 jG (ak da):=by walk_at "sc"
theorem jq(E:Env w K mg)(F:Mf K aq "refuse_used" "Book.refuse_used" da jG f fd)
  (G29:Xi K bw "Used.__init__" g9 kR f29 fd29)(O29:bK P w K mg base CX0 1 f29 fd29 kR (k8 bw ["name"])) :
  bK P w K mg base (CXE P w) 3 f fd jG (eN K bq):=by
 refine gQ (t:=λ Ex=>gm Ex) F.fn dX jc (λ cdv A outer s H E' Ex hr hE hP=>?_) iH;refine Jd.h ?_;exact af (aC (au (iI hr.h) fT (aF aG aH (dvQ 1) ai) ag)
   (ae tT)
   ax) <|
  ae (jT hP rfl (bM (mZ rfl E.m_USERS E.k_USERS (aF aG aH (dvQ 1) ai))) (aM (i:=2) dX.nd rfl (Or.inl rfl))
   (ae (sX hE (λ _ hE=>jT hP rfl (jB (ay (aZ hr) (bY E.k_Book E.n_Book_told_rows (dvQ 0)) (dvQ 2))) (aM (i:=3) dX.nd rfl (Or.inl rfl))
    (ae (aC (au (bG hr.h) aX (aF aG aH (dvQ 3) ai) (aF aG aH (dvQ 1) ai))
     (ae (dB hE G29.xm O29 hr.m rfl E.m_Used G29.bd (az (aF aG aH (dvQ 3) ai) aa)))
     ax))))))
theorem vL:aL qo sJ (ak iR):=by walk_at "sc"
theorem wA(E:Env w K mg)(F:Fn K mg "tell_row" iR sJ f fd) :
  bK P w K mg base CX0 1 f fd sJ (dH K cS):=by
 refine bN (t:=qR) F.fn vL u7 (λ cdv A outer s H E' hr=>?_) rR;refine Jd.h ?_;exact ae (bz (fD (ay (aZ hr) (bY E.k_Book E.n_Book_told_rows (dvQ 0)) (aF aG aH (dvQ 1) ai)) (cu (dvQ 1) (cw ai) cv)))
theorem dm:aL oU sJ (ak gW):=by walk_at "sc"
theorem tL(E:Env w K mg)(F:Fn K mg "tell_wish" gW sJ f fd) :
  bK P w K mg base CX0 1 f fd sJ (dH K cz):=by
 refine bN (t:=oP) F.fn dm sx (λ cdv A outer s H E' hr=>?_) pI;refine Jd.h ?_;exact af (fw (cu (dvQ 1) (cw ai) cv) (gk rfl (bb (aM (i:=2) dm.nd rfl (Or.inl rfl)) (bb (aM (i:=3) dm.nd rfl (Or.inl rfl)) (bb (aM (i:=4) dm.nd rfl (Or.inl rfl)) (bb (aM (i:=5) dm.nd rfl (Or.inl rfl)) (bb (aM (i:=6) dm.nd rfl (Or.inl rfl)) (bb (aM (i:=7) dm.nd rfl (Or.inl rfl)) eh)))))))) <|
  af (bz (fD (bY E.k_Book E.n_Book_ranked (dvQ 0)) (dvQ 2))) <|
  ae (cL (aZ hr) (bY E.k_Book E.n_Book_wished (dvQ 0)) (dvQ 2) (gH (trs:=[(dS "kind",aj 3),(dS "copies",aj 4),(dS "keep",aj 5),(dS "edition",dI 1),(dS "editions",fX (ah (eo (ah (aj 6) (ah (aj 7) aI))) aI))]) (aK ag (dvQ 3) (aK ag (dvQ 4) (aK ag (dvQ 5) (aK ag ai (aK ag (dF (az (bc (az (dvQ 6) (az (dvQ 7) aa))) aa)) d9)))))))
theorem akS:(["row", "name"]:List Str).Nodup:=by decide +kernel
theorem ly:aL tX sJ (ak jW):=by walk_at "sc"
theorem yG(E:Env w K mg)(F:Fn K mg "end_one" jW sJ f fd) :
  bK P w K mg base CX0 1 f fd sJ (dH K cY):=by
 refine bN (t:=uM) F.fn ly vZ (λ cdv A outer s H E' hr=>?_) vi;refine Jd.h ?_;exact af (fw (cu (dvQ 1) (cw ai) cv) (gk rfl (bb (aM (i:=2) ly.nd rfl (Or.inl rfl)) (bb (aM (i:=3) ly.nd rfl (Or.inr rfl)) eh)))) <|
  ae (aC (au (bG hr.h) aX (dvQ 2) ag)
   (af (bz (y9 (bY E.k_Book E.n_Book_ranked (dvQ 0)) (dvQ 3))) <|
   af (abG (bY E.k_Book E.n_Book_wished (dvQ 0)) (dvQ 3)) <|
   ae (bz (fD (bY E.k_Book E.n_Book_ended (dvQ 0)) (dvQ 3))))
   (ae (cL (aZ hr) (bY E.k_Book E.n_Book_told_rows (dvQ 0)) (dvQ 2) (qF (zY rfl (vV (own:=(["row"]:List Str)) (fr:=[3]) rfl) (jB (ay (aZ hr) (bY E.k_Book E.n_Book_told_rows (dvQ 0)) (dvQ 2))) (λ _ _ _ _ _ _=>aM (i:=0) akS rfl (Or.inl rfl)) (λ _ _ _ _ _ _=>e8 (au (iI hr.h) fT (aF aG aH (dvQ 0) ai) (dvQ 1))) (λ _ _ _ _ _ _=>dvQ 0))))))
theorem qi:aL tO ahE (ak fO):=by walk_at "sc"
theorem zF(E:Env w K mg)(F:MfL K aq "do" "Book.do" fO ahE "hand" "by" f fd)
  (G18:Fn K mg "is_deed" jN q_9 f18 fd18)(O18:bK P w K mg base CX0 4 f18 fd18 q_9 (dH K dZ))
  (G23:Mf K aq "refuse_unknown" "Book.refuse_unknown" cB jG f23 fd23)(O23:bK P w K mg base (CXE P w) 3 f23 fd23 jG (eN K aU))
  (G25:Mf K aq "refuse_known" "Book.refuse_known" cW jG f25 fd25)(O25:bK P w K mg base (CXE P w) 3 f25 fd25 jG (eN K bo))
  (G27:Mf K aq "refuse_too_many" "Book.refuse_too_many" cx jG f27 fd27)(O27:bK P w K mg base (CXE P w) 3 f27 fd27 jG (eN K aS))
  (G28:Mf K aq "refuse_no_back" "Book.refuse_no_back" cE jG f28 fd28)(O28:bK P w K mg base (CXE P w) 1 f28 fd28 jG (eN K aV))
  (G30:Mf K aq "refuse_used" "Book.refuse_used" da jG f30 fd30)(O30:bK P w K mg base (CXE P w) 3 f30 fd30 jG (eN K bq))
  (G31:Fn K mg "tell_row" iR sJ f31 fd31)(O31:bK P w K mg base CX0 1 f31 fd31 sJ (dH K cS))
  (G32:Fn K mg "tell_wish" gW sJ f32 fd32)(O32:bK P w K mg base CX0 1 f32 fd32 sJ (dH K cz))
  (G33:Fn K mg "end_one" jW sJ f33 fd33)(O33:bK P w K mg base CX0 1 f33 fd33 sJ (dH K cY)) :
  bK P w K mg base (CXE P w) 5 f fd ahE (eN K dE):=by
 refine gQ (t:=λ Ex=>uq Ex dZ aU bo aS aV bq cS cz cY) F.fn qi wN (λ cdv A outer s H E' Ex hr hE hP=>?_) sO;refine Jd.h ?_;exact af (aC (dO (cU (gv O18 hr.m rfl G18.mg G18.fn.kp G18.bd (az (dvQ 1) aa))))
   (ae (oB hE E.x_NoDeed E.xn_NoDeed E.xt_NoDeed E.xk_NoDeed hr rfl E.m_NoDeed (az ag aa)))
   ax) <|
  af (bz (agR hE (dvQ 0) E.k_Book G23.me O23 hr.m G23.bd (az (dvQ 1) aa))) <|
  af (bz (agR hE (dvQ 0) E.k_Book G25.me O25 hr.m G25.bd (az (dvQ 1) aa))) <|
  af (bz (agR hE (dvQ 0) E.k_Book G27.me O27 hr.m G27.bd (az (dvQ 1) aa))) <|
  af (bz (agR hE (dvQ 0) E.k_Book G28.me O28 hr.m G28.bd (az (dvQ 1) aa))) <|
  af (bz (agR hE (dvQ 0) E.k_Book G30.me O30 hr.m G30.bd (az (dvQ 1) aa))) <|
  af (aP (i:=3) qi.nd rfl (Or.inl rfl) (ado rfl E.m_DOINGS E.k_DOINGS (aF aG aH (dvQ 1) ai))) <|
  af (bz (zf (o6.cons (ae9 E.m_tell_row G31.mg O31 hr.m G31.fn.kp G31.bd) (o6.cons (ae9 E.m_tell_wish G32.mg O32 hr.m G32.fn.kp G32.bd) (o6.cons (ae9 E.m_end_one G33.mg O33 hr.m G33.fn.kp G33.bd) (o6.nil)))) (dvQ 3) (az (dvQ 0) (az (dvQ 1) aa)))) <|
  ae (bz (fD (bY E.k_Book E.n_Book_done (dvQ 0)) (bc (az (dvQ 2) (az (dvQ 1) aa)))))
theorem ux:aL nB aho (ak dQ):=by walk_at "sc"
theorem uA(E:Env w K mg)(F:Fn K mg "_law_word_of" dQ aho f fd) :
  rf P w K mg base CX0 1 f fd aho (dH K cP):=by
 refine ag1 (t:=oE) F.fn ux sr (λ cdv A outer s H E' hr=>?_) o9;refine Jd.h ?_;exact af (aC (cU (ja E.b_isinstance (gr.cons ⟨E.x_Unknown,E.i_Unknown_NoDeed⟩ (gr.cons ⟨E.x_Known,E.i_Known_NoDeed⟩ (gr.cons ⟨E.x_TooMany,E.i_TooMany_NoDeed⟩ (gr.cons ⟨E.x_Used,E.i_Used_NoDeed⟩ (gr.nil))))) rfl E.m_NoDeed (dvQ 0)))
   (ae (av (bc (az ag (az fI aa)))))
   ax) <|
  af (aC (cU (ja E.b_isinstance (gr.cons ⟨E.x_Unknown,E.i_Unknown_Unknown⟩ (gr.cons ⟨E.x_Known,E.i_Known_Unknown⟩ (gr.cons ⟨E.x_TooMany,E.i_TooMany_Unknown⟩ (gr.cons ⟨E.x_Used,E.i_Used_Unknown⟩ (gr.nil))))) rfl E.m_Unknown (dvQ 0)))
   (ae (av (bc (az ag (az (kI (oX.cons ⟨E.x_Unknown,E.n_Unknown_name⟩ (oX.cons ⟨E.x_Known,E.n_Known_name⟩ (oX.cons ⟨E.x_Used,E.n_Used_name⟩ (oX.nil)))) (dvQ 0)) aa)))))
   ax) <|
  af (aC (cU (ja E.b_isinstance (gr.cons ⟨E.x_Unknown,E.i_Unknown_Known⟩ (gr.cons ⟨E.x_Known,E.i_Known_Known⟩ (gr.cons ⟨E.x_TooMany,E.i_TooMany_Known⟩ (gr.cons ⟨E.x_Used,E.i_Used_Known⟩ (gr.nil))))) rfl E.m_Known (dvQ 0)))
   (ae (av (bc (az ag (az (kI (oX.cons ⟨E.x_Unknown,E.n_Unknown_name⟩ (oX.cons ⟨E.x_Known,E.n_Known_name⟩ (oX.cons ⟨E.x_Used,E.n_Used_name⟩ (oX.nil)))) (dvQ 0)) aa)))))
   ax) <|
  af (aC (cU (ja E.b_isinstance (gr.cons ⟨E.x_Unknown,E.i_Unknown_TooMany⟩ (gr.cons ⟨E.x_Known,E.i_Known_TooMany⟩ (gr.cons ⟨E.x_TooMany,E.i_TooMany_TooMany⟩ (gr.cons ⟨E.x_Used,E.i_Used_TooMany⟩ (gr.nil))))) rfl E.m_TooMany (dvQ 0)))
   (ae (av (bc (az ag (az (kI (oX.cons ⟨E.x_TooMany,E.n_TooMany_most⟩ (oX.nil)) (dvQ 0)) aa)))))
   ax) <|
  af (aC (cU (ja E.b_isinstance (gr.cons ⟨E.x_Unknown,E.i_Unknown_NoBack⟩ (gr.cons ⟨E.x_Known,E.i_Known_NoBack⟩ (gr.cons ⟨E.x_TooMany,E.i_TooMany_NoBack⟩ (gr.cons ⟨E.x_Used,E.i_Used_NoBack⟩ (gr.nil))))) rfl E.m_NoBack (dvQ 0)))
   (ae (av (bc (az ag (az fI aa)))))
   ax) <|
  af (aC (cU (ja E.b_isinstance (gr.cons ⟨E.x_Unknown,E.i_Unknown_Used⟩ (gr.cons ⟨E.x_Known,E.i_Known_Used⟩ (gr.cons ⟨E.x_TooMany,E.i_TooMany_Used⟩ (gr.cons ⟨E.x_Used,E.i_Used_Used⟩ (gr.nil))))) rfl E.m_Used (dvQ 0)))
   (ae (av (bc (az ag (az (kI (oX.cons ⟨E.x_Unknown,E.n_Unknown_name⟩ (oX.cons ⟨E.x_Known,E.n_Known_name⟩ (oX.cons ⟨E.x_Used,E.n_Used_name⟩ (oX.nil)))) (dvQ 0)) aa)))))
   ax) <|
  ae (av (bc (az ag (az fI aa))))
theorem j6:aL xD ahx (ak mx):=by walk_at "sc"
theorem abg(E:Env w K mg)(F:Fn K mg "_law_told" mx ahx f fd)
  (G34:MfL K aq "do" "Book.do" fO ahE "hand" "by" f34 fd34)(O34:bK P w K mg base (CXE P w) 5 f34 fd34 ahE (eN K dE))
  (G35:Fn K mg "_law_word_of" dQ aho f35 fd35)(O35:rf P w K mg base CX0 1 f35 fd35 aho (dH K cP)) :
  bK P w K mg base CX0 6 f fd ahx (dH K du):=by
 refine bN (t:=xv dE cP) F.fn j6 y0 (λ cdv A outer s H E' hr=>?_) xb;refine Jd.h ?_;exact af (yr rfl rfl (λ _ _ _ _ hE hP =>
   ae (aC (au (bG hr.h) aX (dvQ 2) ag)
    (ae (aP (i:=3) j6.nd rfl (Or.inl rfl) (alC hE (dvQ 0) E.k_Book G34.me O34 hr.m G34.bd (az (dvQ 1) aa))))
    (ae (aP (i:=3) j6.nd rfl (Or.inl rfl) (akT hE (dvQ 0) E.k_Book G34.me O34 hr.m G34.kb (az (dvQ 1) aa) (dvQ 2)))))) (aeL (i:=4) rfl E.m_PlaceError (gr.cons E.e_Unknown_PlaceError (gr.cons E.e_Known_PlaceError (gr.cons E.e_TooMany_PlaceError (gr.cons E.e_Used_PlaceError (gr.nil))))) j6.nd rfl rfl rfl (λ _ =>
   ae (av (akH O35 ((hr.h.mark _).mono (by decide)) rfl G35.mg G35.fn.kp G35.bd (az (dvQ 4) aa)))) yo)) <|
  ae (av (bc (az ag (az (dvQ 3) aa))))
theorem akB:(["_law_one", "_law_name_here"]:List Str).Nodup:=by decide +kernel
theorem fU:aL ql q_7 (ak iU):=by walk_at "sc"
theorem xh(E:Env w K mg)(F:Fn K mg "_law_wished" iU q_7 f fd) :
  bK P w K mg base CX0 1 f fd q_7 (dH K dw):=by
 refine bN (t:=qO) F.fn fU va (λ cdv A outer s H E' hr=>?_) qX;refine Jd.h ?_;exact af (aas rfl (az (aF aG aH (dvQ 1) ai) (az (aF aG aH (dvQ 1) ai) aa)) (bb (aM (i:=2) fU.nd rfl (Or.inl rfl)) (bb (aM (i:=3) fU.nd rfl (Or.inr rfl)) eh))) <|
  ae (aC (au (bG hr.h) aX (dvQ 2) ag)
   (af (cL (aZ hr) (dvQ 0) ag (fL (ay (aZ hr) (dvQ 0) ag) (cG (az (dvQ 3) aa)))) <|
   af (cL (aZ hr) (ay (aZ hr) (dvQ 0) ag) (dvQ 3) (gH (trs:=[(dS "kind",dOp bL (aj 1) (dI 2)),(dS "copies",dOp bL (aj 1) (dI 3)),(dS "keep",dOp bL (aj 1) (dI 4)),(dS "edition",dI 1)]) (aK ag (aF aG aH (dvQ 1) ai) (aK ag (aF aG aH (dvQ 1) ai) (aK ag (aF aG aH (dvQ 1) ai) (aK ag ai d9)))))) <|
   ae (cL (aZ hr) (ay (aZ hr) (ay (aZ hr) (dvQ 0) ag) (dvQ 3)) ag (cG (az (bc (az (aF aG aH (dvQ 1) ai) (az (aF aG aH (dvQ 1) ai) aa))) aa))))
   (ae (aC (au (bG hr.h) aX (dvQ 2) ag)
    (ae (bz (jV (ay (aZ hr) (ay (aZ hr) (dvQ 0) ag) (dvQ 3)) (kg (trs:=[(dS "copies",dOp bL (aj 1) (dI 2)),(dS "keep",dOp bL (aj 1) (dI 3))]) (aK ag (aF aG aH (dvQ 1) ai) (aK ag (aF aG aH (dvQ 1) ai) d9))))))
    (ae (aC (au (bG hr.h) aX (dvQ 2) ag)
     (af (aP (i:=4) fU.nd rfl (Or.inl rfl) (fL (ay (aZ hr) (ay (aZ hr) (ay (aZ hr) (dvQ 0) ag) (dvQ 3)) ag) (cG (az (bc (az (aF aG aH (dvQ 1) ai) (az (aF aG aH (dvQ 1) ai) aa))) aa)))) <|
     ae (bz (jV (ay (aZ hr) (ay (aZ hr) (dvQ 0) ag) (dvQ 3)) (kg (trs:=[(dS "editions",aj 4),(dS "edition",dCB jC (ah (aj 4) aI))]) (aK ag (dvQ 4) (aK ag (mL eR jj rfl E.b_len je (az (dvQ 4) aa)) d9))))))
     (ae (aC (au (bG hr.h) aX (dvQ 2) ag)
      (ae (cL (aZ hr) (ay (aZ hr) (ay (aZ hr) (dvQ 0) ag) (dvQ 3)) ag (cp aeE aaK (ay (aZ hr) (ay (aZ hr) (ay (aZ hr) (dvQ 0) ag) (dvQ 3)) ag) ai)))
      (ae (aC (au (bG hr.h) aX (dvQ 2) ag)
       (af (qJ (i:=5) fU.nd rfl (Or.inl rfl) rfl (vV (own:=(["_law_one"]:List Str)) (fr:=[3]) rfl) (bM (ay (aZ hr) (dvQ 0) ag)) (λ _ _ _ _ _ _=>aM (i:=0) akB rfl (Or.inl rfl)) (λ _ _ _ _ _ _=>e8 (au (iI hr.h) fT (dvQ 0) (dvQ 1))) (λ _ _ _ _ _ _=>dvQ 0)) <|
       ae (cL (aZ hr) (dvQ 0) ag (fL (fL (cu (dvQ 5) cv (cw (aF aG aH (dvQ 1) ai))) (cG (az (dvQ 3) aa))) (cu (dvQ 5) (cw (aF aG aH (dvQ 1) ai)) cv))))
       ax)))))))))
theorem aki:(["_law_name_here", "_law_thing"]:List Str).Nodup:=by decide +kernel
theorem ala:(["_law_name_here", "_law_thing"]:List Str).Nodup:=by decide +kernel
theorem ajh:(["_law_row", "_law_thing"]:List Str).Nodup:=by decide +kernel
theorem uX:aL yy ahr (ak mG):=by walk_at "sc"
theorem aaE(E:Env w K mg)(F:Fn K mg "_law_done" mG ahr f fd)(z37:qE P w K mg base) :
  bK P w K mg base CX0 2 f fd ahr (dH K dv):=by
 obtain⟨_,_,G37,O37⟩:=z37;refine bN (t:=xH dw) F.fn uX yY (λ cdv A outer s H E' hr=>?_) w6;refine Jd.h ?_;exact af (aP (i:=3) uX.nd rfl (Or.inl rfl) (aF aG aH (dvQ 1) ai)) <|
  af (aC (au gz (gu false) (dvQ 3) (bc (az ag (az ag (az ag (az ag aa))))))
   (ae (cL (aZ hr) (dvQ 0) (dvQ 3) (fL (ay (aZ hr) (dvQ 0) (dvQ 3)) (cG (az (zy sD y7 rfl E.b_tuple xR (az (cu (dvQ 1) (cw ai) cv) aa)) aa)))))
   (ae (aC (au (bG hr.h) aX (dvQ 3) ag)
    (ae (cL (aZ hr) (dvQ 0) ag aaS))
    (ae (aC (au (bG hr.h) aX (dvQ 3) ag)
     (ae (cL (aZ hr) (dvQ 0) ag (iP rfl (vV (own:=(["_law_name_here"]:List Str)) (fr:=[1]) rfl) (bM (ay (aZ hr) (dvQ 0) ag)) (λ _ _ _ _ _ _=>aM (i:=0) aki rfl (Or.inl rfl)) (λ _ _ _ _ _ _=>e8 (au (iI hr.h) fT (dvQ 0) (aF aG aH (dvQ 1) ai))) (λ _ _ _ _ _ _=>dvQ 0))))
     (ae (aC (eE (eu (au (bG hr.h) aX (dvQ 3) ag) (dq (au (bG hr.h) aX (aF aG aH (dvQ 1) ai) ag))))
      (af (cL (aZ hr) (dvQ 0) ag (iP rfl (vV (own:=(["_law_name_here"]:List Str)) (fr:=[1]) rfl) (bM (ay (aZ hr) (dvQ 0) ag)) (λ _ _ _ _ _ _=>aM (i:=0) ala rfl (Or.inl rfl)) (λ _ _ _ _ _ _=>e8 (au (iI hr.h) fT (dvQ 0) (aF aG aH (dvQ 1) ai))) (λ _ _ _ _ _ _=>dvQ 0))) <|
      ae (bz (fD (ay (aZ hr) (dvQ 0) ag) (aF aG aH (dvQ 1) ai))))
      (ae (aC (au (bG hr.h) aX (dvQ 3) ag)
       (ae (cL (aZ hr) (dvQ 0) (aF aG aH (dvQ 1) ai) (iP rfl (vV (own:=(["_law_row"]:List Str)) (fr:=[1]) rfl) (bM (ay (aZ hr) (dvQ 0) (aF aG aH (dvQ 1) ai))) (λ _ _ _ _ _ _=>aM (i:=0) ajh rfl (Or.inl rfl)) (λ _ _ _ _ _ _=>e8 (au (iI hr.h) fT (aF aG aH (dvQ 0) ai) (aF aG aH (dvQ 1) ai))) (λ _ _ _ _ _ _=>dvQ 0))))
       (ae (bz (gv O37 hr.m rfl G37.mg G37.fn.kp G37.bd (az (dvQ 0) (az (dvQ 1) aa)))))))))))))) <|
  ae (bz (fD (ay (aZ hr) (dvQ 0) ag) (bc (az (dvQ 2) (az (dvQ 1) aa)))))
theorem pK:aL ku fE (ak fC):=by walk_at "sc"
theorem pL(E:Env w K mg)(F:Mf K aq "groups" "Book.groups" fC fE f fd) :
  bK P w K mg base CX0 1 f fd fE (dH K b9):=by
 refine bN (t:=kQ) F.fn pK og (λ cdv A outer s H E' hr=>?_) mh;refine Jd.h ?_;exact ae (av (zy bO df rfl E.b_list fk (az (ay (aZ hr) (bY E.k_Book E.n_Book_told_rows (dvQ 0)) ag) aa)))
theorem pd:aL kf fE (ak fu):=by walk_at "sc"
theorem pE(E:Env w K mg)(F:Mf K aq "stores" "Book.stores" fu fE f fd) :
  bK P w K mg base CX0 1 f fd fE (dH K ck):=by
 refine bN (t:=kB) F.fn pd oS (λ cdv A outer s H E' hr=>?_) mr;refine Jd.h ?_;exact ae (av (zy bO df rfl E.b_list fk (az (ay (aZ hr) (bY E.k_Book E.n_Book_told_rows (dvQ 0)) ag) aa)))
theorem rV:aL lG fE (ak gf):=by walk_at "sc"
theorem sd(E:Env w K mg)(F:Mf K aq "doors" "Book.doors" gf fE f fd) :
  bK P w K mg base CX0 1 f fd fE (dH K cA):=by
 refine bN (t:=lQ) F.fn rV pw (λ cdv A outer s H E' hr=>?_) mP;refine Jd.h ?_;exact ae (av (zy bO df rfl E.b_list fk (az (ay (aZ hr) (bY E.k_Book E.n_Book_told_rows (dvQ 0)) ag) aa)))
theorem rQ:aL lH fE (ak gc):=by walk_at "sc"
theorem sC(E:Env w K mg)(F:Mf K aq "rules" "Book.rules" gc fE f fd) :
  bK P w K mg base CX0 1 f fd fE (dH K cD):=by
 refine bN (t:=lI) F.fn rQ oY (λ cdv A outer s H E' hr=>?_) mQ;refine Jd.h ?_;exact ae (av (zy bO df rfl E.b_list fk (az (ay (aZ hr) (bY E.k_Book E.n_Book_told_rows (dvQ 0)) ag) aa)))
theorem ow:aL ji fE (ak eV):=by walk_at "sc"
theorem nN(E:Env w K mg)(F:Mf K aq "emptied" "Book.emptied" eV fE f fd) :
  bK P w K mg base CX0 1 f fd fE (dH K bP):=by
 refine bN (t:=jn) F.fn ow lZ (λ cdv A outer s H E' hr=>?_) kZ;refine Jd.h ?_;exact ae (av (mL u5 adI rfl E.b_sorted t9 (az (bY E.k_Book E.n_Book_emptied_names (dvQ 0)) aa)))
theorem vJ:aL qa fE (ak iT):=by walk_at "sc"
theorem wG(E:Env w K mg)(F:Mf K aq "log" "Book.log" iT fE f fd) :
  bK P w K mg base CX0 1 f fd fE (dH K dg):=by
 refine bN (t:=qw) F.fn vJ tW (λ cdv A outer s H E' hr=>?_) sE;refine Jd.h ?_;exact ae (av (zy bO df rfl E.b_list fk (az (bY E.k_Book E.n_Book_done (dvQ 0)) aa)))
theorem jg:aL kh ahB (ak fo):=by walk_at "sc"
theorem pP(E:Env w K mg)(F:Fn K mg "wish_copied" fo ahB f fd) :
  bK P w K mg base CX0 1 f fd ahB (dH K cn):=by
 refine bN (t:=kL) F.fn jg oM (λ cdv A outer s H E' hr=>?_) l7;refine Jd.h ?_;exact af (aP (i:=1) jg.nd rfl (Or.inl rfl) (zy vE abF rfl E.b_dict agB (az (dvQ 0) aa))) <|
  af (cL (aZ hr) (dvQ 1) ag (cH (zy bO df rfl E.b_list fk (az (ay (aZ hr) (dvQ 0) ag) aa)))) <|
  ae (av (dvQ 1))
theorem sS:aL n8 kR (ak fP):=by walk_at "sc"
theorem sM(E:Env w K mg)(F:Mf K aq "wish" "Book.wish" fP kR f fd)
  (G4:Fn K mg "is_word" gE q_9 f4 fd4)(O4:bK P w K mg base CX0 1 f4 fd4 q_9 (dH K bD))
  (G22:Xi K aw "Unknown.__init__" dM kR f22 fd22)(O22:bK P w K mg base CX0 1 f22 fd22 kR (k8 aw ["name"]))
  (G45:Fn K mg "wish_copied" fo ahB f45 fd45)(O45:bK P w K mg base CX0 1 f45 fd45 ahB (dH K cn)) :
  bK P w K mg base (CXE P w) 3 f fd kR (eN K bF):=by
 refine gQ (t:=λ Ex=>nX Ex bD cn) F.fn sS qW (λ cdv A outer s H E' Ex hr hE hP=>?_) pO;refine Jd.h ?_;exact af (aC (eE (hW (dO (cU (gv O4 hr.m rfl G4.mg G4.fn.kp G4.bd (az (dvQ 1) aa)))) (ia (wM (aZ hr) (dvQ 1) (bY E.k_Book E.n_Book_wished (dvQ 0))))))
   (ae (dB hE G22.xm O22 hr.m rfl E.m_Unknown G22.bd (az (dvQ 1) aa)))
   ax) <|
  ae (av (gv O45 hr.m rfl G45.mg G45.fn.kp G45.bd (az (ay (aZ hr) (bY E.k_Book E.n_Book_wished (dvQ 0)) (dvQ 1)) aa)))
theorem ahY:(["_law_name_here", "_law_some"]:List Str).Nodup:=by decide +kernel
theorem kY:aL tZ ahm (ak kE):=by walk_at "sc"
theorem yZ(E:Env w K mg)(F:Fn K mg "_law_asked" kE ahm f fd)(z39:kF P w K mg base)(z20:hV P w K mg base)(z40:kz P w K mg base)(z41:lJ P w K mg base)(z42:lN P w K mg base)(z43:jf P w K mg base)(z19:fK P w K mg base)(z44:qA P w K mg base)
  (G46:Mf K aq "wish" "Book.wish" fP kR f46 fd46)(O46:bK P w K mg base (CXE P w) 3 f46 fd46 kR (eN K bF)) :
  bK P w K mg base CX0 4 f fd ahm (dH K bR):=by
 obtain⟨_,_,G39,O39⟩:=z39;obtain⟨_,_,G20,O20⟩:=z20;obtain⟨_,_,G40,O40⟩:=z40;obtain⟨_,_,G41,O41⟩:=z41;obtain⟨_,_,G42,O42⟩:=z42;obtain⟨_,_,G43,O43⟩:=z43;obtain⟨_,_,G19,O19⟩:=z19;obtain⟨_,_,G44,O44⟩:=z44;refine bN (t:=tH b9 bj ck cA cD bP aW dg bF) F.fn kY vU (λ cdv A outer s H E' hr=>?_) sQ;refine Jd.h ?_;exact af (aP (i:=1) kY.nd rfl (Or.inl rfl) (cG (az (cH (dh (dvQ 0) E.k_Book G39.me O39 hr.m G39.bd)) (az (cH (dh (dvQ 0) E.k_Book G20.me O20 hr.m G20.bd)) (az (cH (dh (dvQ 0) E.k_Book G40.me O40 hr.m G40.bd)) (az (cH (dh (dvQ 0) E.k_Book G41.me O41 hr.m G41.bd)) (az (cH (dh (dvQ 0) E.k_Book G42.me O42 hr.m G42.bd)) (az (cH (dh (dvQ 0) E.k_Book G43.me O43 hr.m G43.bd)) aa)))))))) <|
  af (aP (i:=1) kY.nd rfl (Or.inl rfl) (fL (dvQ 1) (cG (az (cH (dh (dvQ 0) E.k_Book G19.me O19 hr.m G19.bd)) (az (cH (dh (dvQ 0) E.k_Book G44.me O44 hr.m G44.bd)) aa))))) <|
  ae (av (mL (y6 hr.h) ad8 rfl E.b_repr aaZ (az (fL (dvQ 1) (iP rfl (vV (own:=(["_law_name_here"]:List Str)) (fr:=[0]) rfl) (bM (cH (dh (dvQ 0) E.k_Book G20.me O20 hr.m G20.bd))) (λ _ _ _ _ _ _=>aM (i:=0) ahY rfl (Or.inl rfl)) (λ _ _ _ _ _ _=>fY) (λ _ _ _ _ _ _=>cH (pW rfl rfl E.b_sorted (agR yk (dvQ 1) E.k_Book G46.me O46 hr.m G46.bd (az (dvQ 0) aa)))))) aa)))
theorem aip:(["_law_name_here", "_law_m"]:List Str).Nodup:=by decide +kernel
theorem pX:aL uE ahs (ak jO):=by walk_at "sc"
theorem yH(E:Env w K mg)(F:Fn K mg "_law_state" jO ahs f fd) :
  bK P w K mg base CX0 1 f fd ahs (dH K bS):=by
 refine bN (t:=tV) F.fn pX vO (λ cdv A outer s H E' hr=>?_) vn;refine Jd.h ?_;exact af (aP (i:=1) pX.nd rfl (Or.inl rfl) (dF (az (ay (aZ hr) (dvQ 0) ag) (az (ay (aZ hr) (dvQ 0) ag) (az (ay (aZ hr) (dvQ 0) ag) (az (ay (aZ hr) (dvQ 0) ag) (az (ay (aZ hr) (dvQ 0) ag) (az (ay (aZ hr) (dvQ 0) ag) (az (ay (aZ hr) (dvQ 0) ag) (az (ay (aZ hr) (dvQ 0) ag) aa)))))))))) <|
  ae (av (mL (zu hr) adg rfl E.b_repr aaZ (az (cp abq aed (dvQ 1) (zY rfl (vV (own:=(["_law_name_here"]:List Str)) (fr:=[0]) rfl) (bM (ay (aZ hr) (dvQ 0) ag)) (λ _ _ _ _ _ _=>aM (i:=0) aip rfl (Or.inl rfl)) (λ _ _ _ _ _ _=>fY) (λ _ _ _ _ _ _=>cH (pW rfl rfl E.b_sorted (ay (aZ hr) (ay (aZ hr) (dvQ 1) ag) (dvQ 0)))))) aa)))
theorem lP:aL nM ahA (ak gU):=by walk_at "sc"
theorem uP(E:Env w K mg)(F:Fn K mg "_law_unknown" gU ahA f fd)
  (G46:Mf K aq "wish" "Book.wish" fP kR f46 fd46)(O46:bK P w K mg base (CXE P w) 3 f46 fd46 kR (eN K bF)) :
  bK P w K mg base CX0 4 f fd ahA (dH K bB):=by
 refine bN (t:=n9 bF) F.fn lP sH (λ cdv A outer s H E' hr=>?_) o7;refine Jd.h ?_;exact af (yr rfl rfl (λ _ _ _ _ hE hP =>
   ae (bz (agR hE (dvQ 0) E.k_Book G46.me O46 hr.m G46.bd (az (dvQ 1) aa)))) (aeL (i:=2) rfl E.m_Unknown (gr.cons E.e_Unknown_Unknown (gr.nil)) lP.nd rfl rfl rfl (λ _ =>
   ae (av (q8 (bG (hr.h.mark _)) aX (kI (oX.cons ⟨E.x_Unknown,E.n_Unknown_name⟩ (oX.nil)) (dvQ 2)) (dvQ 1)))) yo)) <|
  ae (av jJ)
theorem aiL:(["_law_name_here"]:List Str).Nodup:=by decide +kernel
theorem ahI:(["_law_name_here", "_law_some", "_law_m"]:List Str).Nodup:=by decide +kernel
theorem jm:aL ahK q_0 (ak rB):=by walk_at "sc"
theorem ajI(E:Env w K mg)(F:Fn K mg "law" rB q_0 f fd)(z0:aat P w K mg base)(z2:lF P w K mg base)
  (G6:Mi K aq "Book.__init__" dP ahG f6 fd6)(O6:bK P w K mg base (CXE P w) 4 f6 fd6 ahG (eN K cO))(z7:abt P w K mg base)(z1:jK P w K mg base)(z10:x9 P w K mg base)(z13:aba P w K mg base)(z36:xG P w K mg base)(z38:xO P w K mg base)(z47:vj P w K mg base)(z48:uZ P w K mg base)(z49:nv P w K mg base) :
  bK P w K mg base CX0 7 f fd q_0 (dH K mT):=by
 obtain⟨_,_,G0,O0⟩:=z0;obtain⟨_,_,G2,O2⟩:=z2;obtain⟨_,_,G7,O7⟩:=z7;obtain⟨_,_,G1,O1⟩:=z1;obtain⟨_,_,G10,O10⟩:=z10;obtain⟨_,_,G13,O13⟩:=z13;obtain⟨_,_,G36,O36⟩:=z36;obtain⟨_,_,G38,O38⟩:=z38;obtain⟨_,_,G47,O47⟩:=z47;obtain⟨_,_,G48,O48⟩:=z48;obtain⟨_,_,G49,O49⟩:=z49;refine bN (t:=ajw gq cC cO gg aR fc d5 du dv bR bS bB) F.fn jm agx (λ cdv A outer s H E' hr=>?_) adx;refine Jd.h ?_;exact af (aP (i:=1) jm.nd rfl (Or.inl rfl) (gv O0 hr.m rfl G0.mg G0.fn.kp G0.bd (az (dvQ 0) aa))) <|
  af (aP (i:=2) jm.nd rfl (Or.inl rfl) (gv O2 hr.m rfl G2.mg G2.fn.kp G2.bd (az (dvQ 1) aa))) <|
  af (aP (i:=3) jm.nd rfl (Or.inr rfl) (abR yk G6.mi O6 hr.m rfl E.m_Book G6.bd (az (cH (zy bO df rfl E.b_list fk (az (dvQ 2) aa))) aa))) <|
  af (aP (i:=4) jm.nd rfl (Or.inr rfl) (gv O7 hr.m rfl G7.mg G7.fn.kp G7.bd (az (dvQ 2) aa))) <|
  af (qJ (i:=5) jm.nd rfl (Or.inl rfl) rfl (vV (own:=(["_law_name_here"]:List Str)) (fr:=[]) rfl) (bM (cu ag cv (cw (cp fG eA ai (gv O1 hr.m rfl G1.mg G1.fn.kp G1.bd (az (dvQ 1) (az ai aa))))))) (λ _ _ _ _ _ _=>aM (i:=0) aiL rfl (Or.inl rfl)) (λ _ _ _ _ _ _=>fY) (λ _ _ _ _ _ _=>bc (az ag (az (dvQ 0) (az ag (az ai (az ai (az ai (az ai aa))))))))) <|
  af (aP (i:=5) jm.nd rfl (Or.inl rfl) (fL (dvQ 5) (cu (cG (az (bc (az ag (az ag (az ag aa)))) (az (bc (az ag (az ag (az ag aa)))) (az (bc (az ag (az ag (az ag (az ai (az ai (az ai aa))))))) aa)))) cv (cw (gv O1 hr.m rfl G1.mg G1.fn.kp G1.bd (az (dvQ 1) (az ai aa))))))) <|
  af (jT PassesOwn.never rfl (bM (fL (dvQ 5) (cH (cp ag2 adv (cG (az fI aa)) (cp fG eA ai (gv O1 hr.m rfl G1.mg G1.fn.kp G1.bd (az (dvQ 1) (az ai aa)))))))) (aM (i:=6) jm.nd rfl (Or.inl rfl))
   (af (aC (au aek abw (dvQ 6) fI)
    (ae (aP (i:=6) jm.nd rfl (Or.inl rfl) (gv O10 hr.m rfl G10.mg G10.fn.kp G10.bd (az (dvQ 1) (az (dvQ 4) aa)))))
    ax) <|
   af (aP (i:=7) jm.nd rfl (Or.inl rfl) (gv O13 hr.m rfl G13.mg G13.fn.kp G13.bd (az (dvQ 4) (az (dvQ 6) aa)))) <|
   af (aC (au (iI hr.h) fT (gv O36 hr.m rfl G36.mg G36.fn.kp G36.bd (az (dvQ 3) (az (dvQ 6) (az ag aa)))) (dvQ 7))
    (ae (av jJ))
    ax) <|
   af (aC (au (bG hr.h) aX (aF aG aH (dvQ 7) ai) ag)
    (ae (bz (gv O38 hr.m rfl G38.mg G38.fn.kp G38.bd (az (dvQ 4) (az (dvQ 6) (az ag aa))))))
    ax) <|
   af (aC (au (iI hr.h) fT (gv O47 hr.m rfl G47.mg G47.fn.kp G47.bd (az (dvQ 3) aa)) (gv O48 hr.m rfl G48.mg G48.fn.kp G48.bd (az (dvQ 4) aa)))
    (ae (av jJ))
    ax) <|
   ae (aC (dO (cU (mL (sT rfl) aei rfl E.b_all ael (az (iP rfl (vV (own:=(["_law_name_here"]:List Str)) (fr:=[3,4]) rfl) (bM ag) (λ _ _ _ _ _ _=>aM (i:=0) ahI rfl (Or.inl rfl)) (λ _ _ _ _ _ _=>e8 (au lB (gu true) (dvQ 0) (ay (aZ hr) (dvQ 2) ag))) (λ _ _ _ _ _ _=>gv O49 hr.m rfl G49.mg G49.fn.kp G49.bd (az (dvQ 1) (az (dvQ 0) aa)))) aa))))
    (ae (av jJ))
    ax))) <|
  ae (av jJ)
theorem all_mk{l:W.OpenLaw}{w:World}{K:FG}{h:Heap}{mg:Str->Option Value}{fa:Addr}(X:K.In h)(G:h.Ns mainGlobals mg)(hfa:mg "law" = some (.ref fa))
  (p0:PFn K "_law_bag" rW)
  (p1:PFn K "_law_take" mH)
  (p2:PFn K "_law_machines" gn)
  (p3:PXi K cJ "BadName.__init__" eU)
  (p4:PFn K "is_word" gE)
  (p5:PFn K "refuse_names" eW)
  {f6:Addr}{oc6 kV6 dc6 pm6 cd6 ct6:Value}{od6 an6:Option Addr}{sl6:Array (Option Value)}
  (a6:W.findIn K (.ref aq) "__init__" = some (some (.ref f6)))(i6:W.isFn K (.ref f6)=true)(l6:K.lookup f6=some ⟨oc6,od6,.func (W.fnOf "__init__" "Book.__init__" (bh dP) (aY dP) (ak dP) .none kV6 dc6 pm6 an6 cd6 ct6),sl6⟩)(c6:W.codeIn K cd6 "Book.__init__" = true)(k6:W.keepIn K (.ref f6)=true)
  (p7:PFn K "_law_new" sv)
  (p8:PFn K "_law_names" kM)
  (p9:PFn K "_law_name" mw)
  (p10:PFn K "_law_move" mM)
  (p11:PFn K "_law_lacks" jP)
  (p12:PFn K "_law_users" jZ)
  (p13:PFn K "_law_due" rg)
  (p14:PFn K "is_whole" iV)
  (p15:PFn K "is_within" gO)
  (p16:PFn K "is_part" ka)
  (p17:PFn K "keep_fits" gR)
  (p18:PFn K "is_deed" jN)
  (p19:PMf K aq "machines" "Book.machines" eC)
  (p20:PMf K aq "wishes" "Book.wishes" fv)
  (p21:PMf K aq "names_of" "Book.names_of" cK)
  (p22:PXi K aw "Unknown.__init__" dM)
  (p23:PMf K aq "refuse_unknown" "Book.refuse_unknown" cB)
  (p24:PXi K aO "Known.__init__" gh)
  (p25:PMf K aq "refuse_known" "Book.refuse_known" cW)
  (p26:PXi K aD "TooMany.__init__" eS)
  (p27:PMf K aq "refuse_too_many" "Book.refuse_too_many" cx)
  (p28:PMf K aq "refuse_no_back" "Book.refuse_no_back" cE)
  (p29:PXi K bw "Used.__init__" g9)
  (p30:PMf K aq "refuse_used" "Book.refuse_used" da)
  (p31:PFn K "tell_row" iR)
  (p32:PFn K "tell_wish" gW)
  (p33:PFn K "end_one" jW)
  {KD34:Addr}{tk34:Tok}
  {f34:Addr}{oc34 dc34 pm34 cd34 ct34:Value}{od34 an34:Option Addr}{sl34:Array (Option Value)}
  (a34:W.findIn K (.ref aq) "do" = some (some (.ref f34)))(i34:W.isFn K (.ref f34)=true)(l34:K.lookup f34=some ⟨oc34,od34,.func (W.fnOf "do" "Book.do" (bh fO) (aY fO) (ak fO) .none (.ref KD34) dc34 pm34 an34 cd34 ct34),sl34⟩)(c34:W.codeIn K cd34 "Book.do" = true)(k34:W.keepIn K (.ref f34)=true)
  (dk34:W.nsIn K KD34 "by" = some (some (.str "hand" tk34)))
  {f35:Addr}{oc35 kV35 dc35 pm35 cd35 ct35:Value}{od35 an35:Option Addr}{sl35:Array (Option Value)}
  (a35:W.nsIn K mainGlobals "_law_word_of" = some (some (.ref f35)))(l35:K.lookup f35=some ⟨oc35,od35,.func (W.fnOf "_law_word_of" "_law_word_of" (bh dQ) (aY dQ) (ak dQ) .none kV35 dc35 pm35 an35 cd35 ct35),sl35⟩)(c35:W.codeIn K cd35 "_law_word_of" = true)(k35:W.keepIn K (.ref f35)=true)
  (p36:PFn K "_law_told" mx)
  (p37:PFn K "_law_wished" iU)
  (p38:PFn K "_law_done" mG)
  (p39:PMf K aq "groups" "Book.groups" fC)
  (p40:PMf K aq "stores" "Book.stores" fu)
  (p41:PMf K aq "doors" "Book.doors" gf)
  (p42:PMf K aq "rules" "Book.rules" gc)
  (p43:PMf K aq "emptied" "Book.emptied" eV)
  (p44:PMf K aq "log" "Book.log" iT)
  (p45:PFn K "wish_copied" fo)
  (p46:PMf K aq "wish" "Book.wish" fP)
  (p47:PFn K "_law_asked" kE)
  (p48:PFn K "_law_state" jO)
  (p49:PFn K "_law_unknown" gU)
  {f50:Addr}{oc50 kV50 dc50 pm50 cd50 ct50:Value}{od50 an50:Option Addr}{sl50:Array (Option Value)}
  (a50:W.nsIn K mainGlobals "law" = some (some (.ref f50)))(l50:K.lookup f50=some ⟨oc50,od50,.func (W.fnOf "law" "law" (bh rB) (aY rB) (ak rB) .none kV50 dc50 pm50 an50 cd50 ct50),sl50⟩)(c50:W.codeIn K cd50 "law" = true)(k50:W.keepIn K (.ref f50)=true)
  (aC_Book:W.nsIn K mainGlobals "Book" = some (some (.ref aq)))(pg_Book:W.plainGet K aq Str.empty=true)(hd_Book:W.hasDictIn K aq=true)(po_Book:W.plainOver K aq=true)(sa_Book:W.findIn K (.ref aq) "__setattr__" = some (some (.builtin "object.__setattr__")))(mk_Book:W.makesIn K aq=true)(kc_Book:W.keepIn K (.ref aq)=true)
  (xg_BadName:W.nsIn K mainGlobals "BadName" = some (some (.ref cJ)))
  (xg_Known:W.nsIn K mainGlobals "Known" = some (some (.ref aO)))
  (xg_NoBack:W.nsIn K mainGlobals "NoBack" = some (some (.ref bX)))
  (xg_NoDeed:W.nsIn K mainGlobals "NoDeed" = some (some (.ref bZ)))
  (xg_PlaceError:W.nsIn K mainGlobals "PlaceError" = some (some (.ref cf)))
  (xg_TooMany:W.nsIn K mainGlobals "TooMany" = some (some (.ref aD)))
  (xg_Unknown:W.nsIn K mainGlobals "Unknown" = some (some (.ref aw)))
  (xg_Used:W.nsIn K mainGlobals "Used" = some (some (.ref bw)))
  (xg_end_one:W.nsIn K mainGlobals "end_one" = some (some (.ref fb)))
  (xg_tell_row:W.nsIn K mainGlobals "tell_row" = some (some (.ref dG)))
  (xg_tell_wish:W.nsIn K mainGlobals "tell_wish" = some (some (.ref eK)))
  (xg1:W.specialIn K (.builtin "object.__class__") "__get__" = some (some (.builtin "getset_descriptor.__get__")))(xg2:W.takesIn K (.builtin "object.__class__")=some true)
  (x1_BadName:PXc K cJ)
  (x1_Known:PXc K aO)
  (x1_NoBack:PXc K bX)
  (x1_NoDeed:PXc K bZ)
  (x1_TooMany:PXc K aD)
  (x1_Unknown:PXc K aw)
  (x1_Used:PXc K bw)
  (xf_e_Known_PlaceError:W.exmOne K (.ref aO) (.ref cf)=some true)
  (xf_e_TooMany_PlaceError:W.exmOne K (.ref aD) (.ref cf)=some true)
  (xf_e_Unknown_PlaceError:W.exmOne K (.ref aw) (.ref cf)=some true)
  (xf_e_Unknown_Unknown:W.exmOne K (.ref aw) (.ref aw)=some true)
  (xf_e_Used_PlaceError:W.exmOne K (.ref bw) (.ref cf)=some true)
  (xf_i_Known_Known:W.kitAny K (.ref aO) [.ref aO]=some true)
  (xf_i_Known_NoBack:W.kitAny K (.ref aO) [.ref bX]=some false)
  (xf_i_Known_NoDeed:W.kitAny K (.ref aO) [.ref bZ]=some false)
  (xf_i_Known_TooMany:W.kitAny K (.ref aO) [.ref aD]=some false)
  (xf_i_Known_Unknown:W.kitAny K (.ref aO) [.ref aw]=some false)
  (xf_i_Known_Used:W.kitAny K (.ref aO) [.ref bw]=some false)
  (xf_i_TooMany_Known:W.kitAny K (.ref aD) [.ref aO]=some false)
  (xf_i_TooMany_NoBack:W.kitAny K (.ref aD) [.ref bX]=some false)
  (xf_i_TooMany_NoDeed:W.kitAny K (.ref aD) [.ref bZ]=some false)
  (xf_i_TooMany_TooMany:W.kitAny K (.ref aD) [.ref aD]=some true)
  (xf_i_TooMany_Unknown:W.kitAny K (.ref aD) [.ref aw]=some false)
  (xf_i_TooMany_Used:W.kitAny K (.ref aD) [.ref bw]=some false)
  (xf_i_Unknown_Known:W.kitAny K (.ref aw) [.ref aO]=some false)
  (xf_i_Unknown_NoBack:W.kitAny K (.ref aw) [.ref bX]=some false)
  (xf_i_Unknown_NoDeed:W.kitAny K (.ref aw) [.ref bZ]=some false)
  (xf_i_Unknown_TooMany:W.kitAny K (.ref aw) [.ref aD]=some false)
  (xf_i_Unknown_Unknown:W.kitAny K (.ref aw) [.ref aw]=some true)
  (xf_i_Unknown_Used:W.kitAny K (.ref aw) [.ref bw]=some false)
  (xf_i_Used_Known:W.kitAny K (.ref bw) [.ref aO]=some false)
  (xf_i_Used_NoBack:W.kitAny K (.ref bw) [.ref bX]=some false)
  (xf_i_Used_NoDeed:W.kitAny K (.ref bw) [.ref bZ]=some false)
  (xf_i_Used_TooMany:W.kitAny K (.ref bw) [.ref aD]=some false)
  (xf_i_Used_Unknown:W.kitAny K (.ref bw) [.ref aw]=some false)
  (xf_i_Used_Used:W.kitAny K (.ref bw) [.ref bw]=some true)
  (xf_xk_NoBack:W.keepIn K (.ref bX)=true)
  (xf_xk_NoDeed:W.keepIn K (.ref bZ)=true)
  (xf_xn_NoBack:XO.xno K bX=true)
  (xf_xn_NoDeed:XO.xno K bZ=true)
  (xf_xt_NoBack:W.typeIn K (.ref bX)=some (.type "type"))
  (xf_xt_NoDeed:W.typeIn K (.ref bZ)=some (.type "type"))
  (gm_DOINGS:W.nsIn K mainGlobals "DOINGS" = some (some (.ref kH)))
  (ki_DOINGS:ak6 K kH ki=true)(kh_DOINGS:hashesOf K kH=some (ki.map λ p=>PyData.keyHash w.params p.1))
  (gm_BOUNDS:W.nsIn K mainGlobals "BOUNDS" = some (some (.ref ko)))
  (gm_ENDING_SORTS:W.nsIn K mainGlobals "ENDING_SORTS" = some (some (.ref eQ)))
  (gm_MOST:W.nsIn K mainGlobals "MOST" = some (some (.ref vc)))
  (gm_NEEDED:W.nsIn K mainGlobals "NEEDED" = some (some (.ref kA)))
  (gm_PARTS:W.nsIn K mainGlobals "PARTS" = some (some (.ref nY)))
  (gm_USERS:W.nsIn K mainGlobals "USERS" = some (some (.ref ou)))
  (ki_BOUNDS:agm K ko kN=true)(kh_BOUNDS:hashesOf K ko=some (kN.map λ p=>PyData.keyHash w.params p.1))
  (ki_MOST:agm K vc jR=true)(kh_MOST:hashesOf K vc=some (jR.map λ p=>PyData.keyHash w.params p.1))
  (ki_NEEDED:agm K kA j8=true)(kh_NEEDED:hashesOf K kA=some (j8.map λ p=>PyData.keyHash w.params p.1))
  (ki_PARTS:agm K nY m7=true)(kh_PARTS:hashesOf K nY=some (m7.map λ p=>PyData.keyHash w.params p.1))
  (ki_USERS:agm K ou oK=true)(kh_USERS:hashesOf K ou=some (oK.map λ p=>PyData.keyHash w.params p.1))
  (tt_ENDING_SORTS:w5 K (.ref eQ) (.tuple [.str "wish",.str "store",.str "door",.str "rule"])=true)
  (n_BadName_at:W.findIn K (.ref cJ) "at" = some none)
  (n_Book_done:W.findIn K (.ref aq) "done" = some none)
  (n_Book_emptied_names:W.findIn K (.ref aq) "emptied_names" = some none)
  (n_Book_ended:W.findIn K (.ref aq) "ended" = some none)
  (n_Book_machine_names:W.findIn K (.ref aq) "machine_names" = some none)
  (n_Book_ranked:W.findIn K (.ref aq) "ranked" = some none)
  (n_Book_told_rows:W.findIn K (.ref aq) "told_rows" = some none)
  (n_Book_wished:W.findIn K (.ref aq) "wished" = some none)
  (n_Known_name:W.findIn K (.ref aO) "name" = some none)
  (n_TooMany_most:W.findIn K (.ref aD) "most" = some none)
  (n_Unknown_name:W.findIn K (.ref aw) "name" = some none)
  (n_Used_name:W.findIn K (.ref bw) "name" = some none)
  (b_abs:W.nsIn K mainGlobals "abs" = some none)
  (b_all:W.nsIn K mainGlobals "all" = some none)
  (b_bool:W.nsIn K mainGlobals "bool" = some none)
  (b_dict:W.nsIn K mainGlobals "dict" = some none)
  (b_enumerate:W.nsIn K mainGlobals "enumerate" = some none)
  (b_int:W.nsIn K mainGlobals "int" = some none)
  (b_isinstance:W.nsIn K mainGlobals "isinstance" = some none)
  (b_len:W.nsIn K mainGlobals "len" = some none)
  (b_list:W.nsIn K mainGlobals "list" = some none)
  (b_max:W.nsIn K mainGlobals "max" = some none)
  (b_repr:W.nsIn K mainGlobals "repr" = some none)
  (b_sorted:W.nsIn K mainGlobals "sorted" = some none)
  (b_str:W.nsIn K mainGlobals "str" = some none)
  (b_tuple:W.nsIn K mainGlobals "tuple" = some none)
  (b_zip:W.nsIn K mainGlobals "zip" = some none)
  {t_LONGEST_WORD:Tok}(g_LONGEST_WORD:W.nsIn K mainGlobals "LONGEST_WORD" = some (some (.int 8 t_LONGEST_WORD)))
  {t_MOST_EDITIONS:Tok}(g_MOST_EDITIONS:W.nsIn K mainGlobals "MOST_EDITIONS" = some (some (.int 9 t_MOST_EDITIONS)))
  {t_MOST_MACHINES:Tok}(g_MOST_MACHINES:W.nsIn K mainGlobals "MOST_MACHINES" = some (some (.int 8 t_MOST_MACHINES))) :
  ∃ fd:FuncData,(∀ (s:Shared) (v:Value),BindsTo s fd ⟨[v],[]⟩ [("_law_script",v)])/\∀ base:Heap,K.In base->base.Ns mainGlobals mg->bK l.prog w K mg base CX0 7 fa fd q_0 (dH K mT):=by
 have e:=hfa.symm.trans (W.mg_of X G a50);cases e;have E:Env w K mg:=⟨⟨pg_Book,hd_Book,po_Book,sa_Book⟩,W.mg_of X G aC_Book,W.mg_of X G xg_BadName,W.mg_of X G xg_Known,W.mg_of X G xg_NoBack,W.mg_of X G xg_NoDeed,W.mg_of X G xg_PlaceError,W.mg_of X G xg_TooMany,W.mg_of X G xg_Unknown,W.mg_of X G xg_Used,W.mg_of X G xg_end_one,W.mg_of X G xg_tell_row,W.mg_of X G xg_tell_wish,x1_BadName.xc xg1 xg2,x1_Known.xc xg1 xg2,x1_NoBack.xc xg1 xg2,x1_NoDeed.xc xg1 xg2,x1_TooMany.xc xg1 xg2,x1_Unknown.xc xg1 xg2,x1_Used.xc xg1 xg2,xf_e_Known_PlaceError,xf_e_TooMany_PlaceError,xf_e_Unknown_PlaceError,xf_e_Unknown_Unknown,xf_e_Used_PlaceError,xf_i_Known_Known,xf_i_Known_NoBack,xf_i_Known_NoDeed,xf_i_Known_TooMany,xf_i_Known_Unknown,xf_i_Known_Used,xf_i_TooMany_Known,xf_i_TooMany_NoBack,xf_i_TooMany_NoDeed,xf_i_TooMany_TooMany,xf_i_TooMany_Unknown,xf_i_TooMany_Used,xf_i_Unknown_Known,xf_i_Unknown_NoBack,xf_i_Unknown_NoDeed,xf_i_Unknown_TooMany,xf_i_Unknown_Unknown,xf_i_Unknown_Used,xf_i_Used_Known,xf_i_Used_NoBack,xf_i_Used_NoDeed,xf_i_Used_TooMany,xf_i_Used_Unknown,xf_i_Used_Used,xf_xk_NoBack,xf_xk_NoDeed,xf_xn_NoBack,xf_xn_NoDeed,xf_xt_NoBack,xf_xt_NoDeed,W.mg_of X G gm_DOINGS,⟨ki_DOINGS,kh_DOINGS,by decide +kernel,by decide⟩,W.mg_of X G gm_BOUNDS,W.mg_of X G gm_ENDING_SORTS,W.mg_of X G gm_MOST,W.mg_of X G gm_NEEDED,W.mg_of X G gm_PARTS,W.mg_of X G gm_USERS,⟨ki_BOUNDS,kh_BOUNDS,by decide +kernel,by decide⟩,⟨ki_MOST,kh_MOST,by decide +kernel,by decide⟩,⟨ki_NEEDED,kh_NEEDED,by decide +kernel,by decide⟩,⟨ki_PARTS,kh_PARTS,by decide +kernel,by decide⟩,⟨ki_USERS,kh_USERS,by decide +kernel,by decide⟩,tt_ENDING_SORTS,n_BadName_at,n_Book_done,n_Book_emptied_names,n_Book_ended,n_Book_machine_names,n_Book_ranked,n_Book_told_rows,n_Book_wished,n_Known_name,n_TooMany_most,n_Unknown_name,n_Used_name,W.mg_none_of X G b_abs,W.mg_none_of X G b_all,W.mg_none_of X G b_bool,W.mg_none_of X G b_dict,W.mg_none_of X G b_enumerate,W.mg_none_of X G b_int,W.mg_none_of X G b_isinstance,W.mg_none_of X G b_len,W.mg_none_of X G b_list,W.mg_none_of X G b_max,W.mg_none_of X G b_repr,W.mg_none_of X G b_sorted,W.mg_none_of X G b_str,W.mg_none_of X G b_tuple,W.mg_none_of X G b_zip,⟨_,W.mg_of X G g_LONGEST_WORD⟩,⟨_,W.mg_of X G g_MOST_EDITIONS⟩,⟨_,W.mg_of X G g_MOST_MACHINES⟩⟩;obtain⟨_,_,G0⟩:=p0.fn (ps:=q_0) X G (by walk_at "b1");obtain⟨_,_,G1⟩:=p1.fn (ps:=q_1) X G (by walk_at "b2");obtain⟨_,_,G2⟩:=p2.fn (ps:=q_2) X G (by walk_at "b1");obtain⟨_,_,G3⟩:=p3.xi (ps:=aht) E.x_BadName (by walk_at "b2");obtain⟨_,_,G4⟩:=p4.fn (ps:=q_9) X G (by walk_at "b1");obtain⟨_,_,G5⟩:=p5.fn (ps:=ahw) X G (by walk_at "b1");have G6:Mi K aq "Book.__init__" dP ahG _ _:=ak4 a6 i6 l6 c6 k6 mk_Book kc_Book (λ _ _ _ _ _ _ us hl=>by obtain⟨_,_,rfl⟩:=D.agJ hl;rfl);obtain⟨_,_,G7⟩:=p7.fn (ps:=q_3) X G (by walk_at "b1");obtain⟨_,_,G8⟩:=p8.fn (ps:=q_4) X G (by walk_at "b2");obtain⟨_,_,G9⟩:=p9.fn (ps:=q_5) X G (by walk_at "b3");obtain⟨_,_,G10⟩:=p10.fn (ps:=q_6) X G (by walk_at "b2");obtain⟨_,_,G11⟩:=p11.fn (ps:=q_7) X G (by walk_at "b2");obtain⟨_,_,G12⟩:=p12.fn (ps:=q_8) X G (by walk_at "b3");obtain⟨_,_,G13⟩:=p13.fn (ps:=q_7) X G (by walk_at "b2");obtain⟨_,_,G14⟩:=p14.fn (ps:=q_9) X G (by walk_at "b1");obtain⟨_,_,G15⟩:=p15.fn (ps:=ahq) X G (by walk_at "b3");obtain⟨_,_,G16⟩:=p16.fn (ps:=ahy) X G (by walk_at "b2");obtain⟨_,_,G17⟩:=p17.fn (ps:=ahp) X G (by walk_at "b2");obtain⟨_,_,G18⟩:=p18.fn (ps:=q_9) X G (by walk_at "b1");obtain⟨_,_,G19⟩:=p19.mf (ps:=fE) (by walk_at "b1");obtain⟨_,_,G20⟩:=p20.mf (ps:=fE) (by walk_at "b1");obtain⟨_,_,G21⟩:=p21.mf (ps:=acx) (by walk_at "b2");obtain⟨_,_,G22⟩:=p22.xi (ps:=kR) E.x_Unknown (by walk_at "b2");obtain⟨_,_,G23⟩:=p23.mf (ps:=jG) (by walk_at "b2");obtain⟨_,_,G24⟩:=p24.xi (ps:=kR) E.x_Known (by walk_at "b2");obtain⟨_,_,G25⟩:=p25.mf (ps:=jG) (by walk_at "b2");obtain⟨_,_,G26⟩:=p26.xi (ps:=ahH) E.x_TooMany (by walk_at "b2");obtain⟨_,_,G27⟩:=p27.mf (ps:=jG) (by walk_at "b2");obtain⟨_,_,G28⟩:=p28.mf (ps:=jG) (by walk_at "b2");obtain⟨_,_,G29⟩:=p29.xi (ps:=kR) E.x_Used (by walk_at "b2");obtain⟨_,_,G30⟩:=p30.mf (ps:=jG) (by walk_at "b2");obtain⟨_,_,G31⟩:=p31.fn (ps:=sJ) X G (by walk_at "b2");obtain⟨_,_,G32⟩:=p32.fn (ps:=sJ) X G (by walk_at "b2");obtain⟨_,_,G33⟩:=p33.fn (ps:=sJ) X G (by walk_at "b2");have G34:MfL K aq "do" "Book.do" fO ahE "hand" "by" _ _:=ajv rfl rfl rfl rfl a34 i34 l34 c34 k34 dk34;have G35:Fn K mg "_law_word_of" dQ aho _ _:=agK X G a35 l35 c35 k35 (λ _ _ _ _ _ _ us hl=>by obtain⟨_,rfl⟩:=D.acN hl;rfl);obtain⟨_,_,G36⟩:=p36.fn (ps:=ahx) X G (by walk_at "b3");obtain⟨_,_,G37⟩:=p37.fn (ps:=q_7) X G (by walk_at "b2");obtain⟨_,_,G38⟩:=p38.fn (ps:=ahr) X G (by walk_at "b3");obtain⟨_,_,G39⟩:=p39.mf (ps:=fE) (by walk_at "b1");obtain⟨_,_,G40⟩:=p40.mf (ps:=fE) (by walk_at "b1");obtain⟨_,_,G41⟩:=p41.mf (ps:=fE) (by walk_at "b1");obtain⟨_,_,G42⟩:=p42.mf (ps:=fE) (by walk_at "b1");obtain⟨_,_,G43⟩:=p43.mf (ps:=fE) (by walk_at "b1");obtain⟨_,_,G44⟩:=p44.mf (ps:=fE) (by walk_at "b1");obtain⟨_,_,G45⟩:=p45.fn (ps:=ahB) X G (by walk_at "b1");obtain⟨_,_,G46⟩:=p46.mf (ps:=kR) (by walk_at "b2");obtain⟨_,_,G47⟩:=p47.fn (ps:=ahm) X G (by walk_at "b1");obtain⟨_,_,G48⟩:=p48.fn (ps:=ahs) X G (by walk_at "b1");obtain⟨_,_,G49⟩:=p49.fn (ps:=ahA) X G (by walk_at "b2");have G50:Fn K mg "law" rB q_0 _ _:=agK X G a50 l50 c50 k50 (λ _ _ _ _ _ _ us hl=>by obtain⟨_,rfl⟩:=D.acN hl;rfl);refine⟨W.fnOf "law" "law" (bh rB) (aY rB) (ak rB) .none kV50 dc50 pm50 an50 cd50 ct50,λ s v=>.of_eq rfl,λ base _ _=>?_⟩;have z0:aat l.prog w K mg base:=⟨_,_,G0,adJ E G0⟩;have z1:jK l.prog w K mg base:=⟨_,_,G1,zO E G1⟩;have z2:lF l.prog w K mg base:=⟨_,_,G2,q9 E G2 z1⟩;have O3:=ny (P:=l.prog) (base:=base) E G3;have O4:=zj (P:=l.prog) (base:=base) E G4;have O5:=oz (P:=l.prog) (base:=base) E G5 G3 O3 G4 O4;have O6:=uJ (P:=l.prog) (base:=base) E G6 G5 O5;have z7:abt l.prog w K mg base:=⟨_,_,G7,adF E G7⟩;have z8:kD l.prog w K mg base:=⟨_,_,G8,yS E G8⟩;have z9:yx l.prog w K mg base:=⟨_,_,G9,aaX E G9 z8 z1⟩;have z10:x9 l.prog w K mg base:=⟨_,_,G10,zS E G10 z1 z9⟩;have z11:tP l.prog w K mg base:=⟨_,_,G11,yD E G11 z8⟩;have z12:sN l.prog w K mg base:=⟨_,_,G12,yA E G12⟩;have z13:aba l.prog w K mg base:=⟨_,_,G13,aeb E G13 z11 z8 z12⟩;have z14:qP l.prog w K mg base:=⟨_,_,G14,wQ E G14⟩;have z15:mY l.prog w K mg base:=⟨_,_,G15,sW E G15 z14⟩;have z16:tu l.prog w K mg base:=⟨_,_,G16,zC E G16 G4 O4 z15⟩;have z17:mO l.prog w K mg base:=⟨_,_,G17,tm E G17⟩;have O18:=yX (P:=l.prog) (base:=base) E G18 z16 z17;have z19:fK l.prog w K mg base:=⟨_,_,G19,l8 E G19⟩;have z20:hV l.prog w K mg base:=⟨_,_,G20,o8 E G20⟩;have O21:=lX (P:=l.prog) (base:=base) E G21 z19 z20;have O22:=oN (P:=l.prog) (base:=base) E G22;have O23:=iu (P:=l.prog) (base:=base) E G23 G21 O21 G22 O22;have O24:=rD (P:=l.prog) (base:=base) E G24;have O25:=jb (P:=l.prog) (base:=base) E G25 G21 O21 G24 O24;have O26:=nS (P:=l.prog) (base:=base) E G26;have O27:=gV (P:=l.prog) (base:=base) E G27 G21 O21 G26 O26;have O28:=iq (P:=l.prog) (base:=base) E G28;have O29:=uS (P:=l.prog) (base:=base) E G29;have O30:=jq (P:=l.prog) (base:=base) E G30 G29 O29;have O31:=wA (P:=l.prog) (base:=base) E G31;have O32:=tL (P:=l.prog) (base:=base) E G32;have O33:=yG (P:=l.prog) (base:=base) E G33;have O34:=zF (P:=l.prog) (base:=base) E G34 G18 O18 G23 O23 G25 O25 G27 O27 G28 O28 G30 O30 G31 O31 G32 O32 G33 O33;have O35:=uA (P:=l.prog) (base:=base) E G35;have z36:xG l.prog w K mg base:=⟨_,_,G36,abg E G36 G34 O34 G35 O35⟩;have z37:qE l.prog w K mg base:=⟨_,_,G37,xh E G37⟩;have z38:xO l.prog w K mg base:=⟨_,_,G38,aaE E G38 z37⟩;have z39:kF l.prog w K mg base:=⟨_,_,G39,pL E G39⟩;have z40:kz l.prog w K mg base:=⟨_,_,G40,pE E G40⟩;have z41:lJ l.prog w K mg base:=⟨_,_,G41,sd E G41⟩;have z42:lN l.prog w K mg base:=⟨_,_,G42,sC E G42⟩;have z43:jf l.prog w K mg base:=⟨_,_,G43,nN E G43⟩;have z44:qA l.prog w K mg base:=⟨_,_,G44,wG E G44⟩;have O45:=pP (P:=l.prog) (base:=base) E G45;have O46:=sM (P:=l.prog) (base:=base) E G46 G4 O4 G22 O22 G45 O45;have z47:vj l.prog w K mg base:=⟨_,_,G47,yZ E G47 z39 z20 z40 z41 z42 z43 z19 z44 G46 O46⟩;have z48:uZ l.prog w K mg base:=⟨_,_,G48,yH E G48⟩;have z49:nv l.prog w K mg base:=⟨_,_,G49,uP E G49 G46 O46⟩;have O50:=ajI (P:=l.prog) (base:=base) E G50 z0 z2 G6 O6 z7 z1 z10 z13 z36 z38 z47 z48 z49;exact O50
end
theorem walk{l:W.OpenLaw}{q:Program}{loose:List Str}{XP:(Str->Option Value)->Heap->Prop}{YP:World->Heap->Prop}{d:DefRec}{K:Params->FG}(hq:PyProof.Rows.importsNone q=true)(hn:l.most=some 63)(hdf:d.params.defaults=[])
  (hY:∀ (w:World) (h:Heap),YP w h->(K w.params).In h)
  (F:∀ (w:World) (mg:Str->Option Value) (fa:Addr) (h:Heap),(K w.params).In h->h.Ns mainGlobals mg->mg d.name=some (.ref fa) ->
   ∃ fd:FuncData,(∀ (s:Shared) (u:Value),BindsTo s fd ⟨[u],[]⟩ [("_law_script",u)])/\∀ base:Heap,(K w.params).In base->base.Ns mainGlobals mg->bK l.prog w (K w.params) mg base CX0 7 fa fd q_0 (dH (K w.params) mT)) :
  W.WalkO q loose XP YP l.row.toRowW d [] (λ f vs=>PySem.call f vs):=
 L2.agH (n:=63) (k:=7) (x:= "_law_script") (CX:=λ _=>CX0) (sp:=λ w=>dH (K w.params) mT) hq hn (by decide) hdf ⟨rfl,rfl,by decide,by decide⟩ hY F (λ _ H a ns hl hO hS=>D.abT hl hO hS adn) λ _ _ _ _ _ z=>z
end K26
end
namespace PySem.W.Fast
def tw17549216333345308487:=0
def tw9923960633331008454:=0
def tw7224621832204950845:=0
def tw12272003629447910216:=0
def tw994944021840679517:=0
def tw10465651801565622501:=0
def tw18059436069912638159:=0
def tw12859616288998865250:=0
def tw12756854924361692084:=0
def tw14645684903198536047:=0
def tw7885929940113803751:=0
def tw3497395528325088692:=0
def tw7900766327179846565:=0
def tw9741407822859319298:=0
def tw10424334320917587658:=0
def tw1496412403566658692:=0
def tw16959619687565859024:=0
def tw16197344685679717089:=0
def tw14377798512799952709:=0
def tw10519037104951105748:=0
def tw5517284432229167939:=0
def tw7840556100428761275:=0
def tw7848712139814774896:=0
def tw1378152144108608430:=0
def tw7375871508288043933:=0
def tw219517636667428165:=0
def tw1976809707694635328:=0
def tw6703531539652611436:=0
def tw15600655650377191943:=0
def tw14638743248404665304:=0
def tw1837474667887235532:=0
def tw4545001556594175427:=0
def tw779717432131918527:=0
def tw8445130144884783053:=0
def tw1412350619044362510:=0
def tw550215076085858694:=0
def tw7746137237459017567:=0
def tw587759875252269167:=0
def tw12569285696535817899:=0
def tw16715620983067686775:=0
def tw5228297851708334593:=0
def tw3570845317864116091:=0
def tw999147073373071383:=0
def tw4114125289471903698:=0
def tw8410804644806202225:=0
def tw12914874379086676265:=0
def tw12532164546276545798:=0
def tw9798571800803515261:=0
def tw10490068773053539583:=0
def tw10458709837627999069:=0
def tw3617588243082966141:=0
def tw13458472679534714522:=0
def tw282841758450960343:=0
def tw9012413533486152311:=0
def tw3740457928269558835:=0
def tw6148604627337370930:=0
def tw711134577162571758:=0
def tw5198040789164743694:=0
def tw2942822038564926413:=0
def tw15042299056832459596:=0
def tw9645390422866068553:=0
def tw1051194034419909544:=0
def tw5764457641410782183:=0
def tw6669573066312040487:=0
def tw5011168901509366502:=0
def tw15465085274941055686:=0
def tw10304462447247655749:=0
def tw11630404044731315649:=0
def tw13351738579730645952:=0
def tw10787681381582214016:=0
end PySem.W.Fast
open PySem PySem.W PyProof.Rows
local macro_rules | `(tactic| walk_at "kf")=>`(tactic| (refine' D.ah2 ?a ?l ?c ?k; (case a=>k_is); (case l=>k_is); (case c=>k_is); (case k=>k_is)))
local macro_rules | `(tactic| walk_at "km")=>`(tactic| (refine' D.aik ?a ?i ?l ?c ?k; (case a=>k_is); (case i=>k_is); (case l=>k_is); (case c=>k_is); (case k=>k_is)))
local macro_rules | `(tactic| walk_at "kx")=>`(tactic| (refine' D.aiq ?a ?i ?l ?c ?k ?m ?t ?n; (case a=>k_is); (case i=>k_is); (case l=>k_is); (case c=>k_is); (case k=>k_is); (case m=>kernel_rfl); (case t=>k_is); (case n=>k_is)))
local macro_rules | `(tactic| walk_at "ke")=>`(tactic| (refine' ⟨?a,?b,?c,?d,?e⟩; (case a=>kernel_rfl); (case b=>k_is); (case c=>k_is); (case d=>k_is); (case e=>k_is)))
set_option maxRecDepth 100000
set_option maxHeartbeats 0
theorem PySem.Challenge.cw_placedworks_k26_ends_and_uses_holds : PySem.Challenge.rw_placedworks_k26_ends_and_uses.Holds := by
 w_on;o_law;k_head; (case hw=>w_witness2)
 k_fill
 refine K26.walk (l:=PySem.Challenge.rw_placedworks_k26_ends_and_uses) ?Q rfl rfl (λ w h Y=>PySem.W.kIn_of Y) ?F
 case Q=>kernel_rfl
 case F =>
  intro w mg fa h KX G hmg;refine' K26.all_mk KX G hmg ?v0 ?v1 ?v2 ?v3 ?v4 ?v5 ?v6 ?v7 ?v8 ?v9 ?v10 ?v11 ?v12 ?v13 ?v14 ?v15 ?v16 ?v17 ?v18 ?v19 ?v20 ?v21 ?v22 ?v23 ?v24 ?v25 ?v26 ?v27 ?v28 ?v29 ?v30 ?v31 ?v32 ?v33 ?v34 ?v35 ?v36 ?v37 ?v38 ?v39 ?v40 ?v41 ?v42 ?v43 ?v44 ?v45 ?v46 ?v47 ?v48 ?v49 ?v50 ?v51 ?v52 ?v53 ?v54 ?v55 ?v56 ?v57 ?v58 ?v59 ?v60 ?v61 ?v62 ?v63 ?v64 ?v65 ?v66 ?v67 ?v68 ?v69 ?v70 ?v71 ?v72 ?v73 ?v74 ?v75 ?v76 ?v77 ?v78 ?v79 ?v80 ?v81 ?v82 ?v83 ?v84 ?v85 ?v86 ?v87 ?v88 ?v89 ?v90 ?v91 ?v92 ?v93 ?v94 ?v95 ?v96 ?v97 ?v98 ?v99 ?v100 ?v101 ?v102 ?v103 ?v104 ?v105 ?v106 ?v107 ?v108 ?v109 ?v110 ?v111 ?v112 ?v113 ?v114 ?v115 ?v116 ?v117 ?v118 ?v119 ?v120 ?v121 ?v122 ?v123 ?v124 ?v125 ?v126 ?v127 ?v128 ?v129 ?v130 ?v131 ?v132 ?v133 ?v134 ?v135 ?v136 ?v137 ?v138 ?v139 ?v140 ?v141 ?v142 ?v143 ?v144 ?v145 ?v146 ?v147 ?v148 ?v149 ?v150 ?v151 ?v152 ?v153 ?v154 ?v155 ?v156 ?v157 ?v158 ?v159 ?v160 ?v161 ?v162 ?v163 ?v164 ?v165 ?v166 ?v167 ?v168 ?v169 ?v170 ?v171 ?v172 ?v173 ?v174 ?v175 ?v176 ?v177
  (case v0 | v1 | v2 | v4 | v5 | v11 | v12 | v13 | v14 | v15 | v16 | v17 | v18 | v19 | v20 | v21 | v22 | v35 | v36 | v37 | v48 | v49 | v50 | v57 | v59 | v60 | v61=>walk_at "kf")
  (case v3 | v26 | v28 | v30 | v33=>walk_at "kx")
  (case v6 | v7 | v8 | v9 | v10 | v38 | v39 | v40 | v41 | v42 | v43 | v44 | v45 | v46 | v47 | v62 | v63 | v64 | v65 | v66 | v67 | v68 | v69 | v70 | v71 | v72 | v73 | v74 | v75 | v76 | v77 | v78 | v79 | v80 | v81 | v82 | v83 | v84 | v85 | v128 | v131 | v132 | v133 | v134 | v135 | v136 | v148 | v149 | v150 | v151 | v152 | v153 | v154 | v155 | v156 | v157 | v158 | v159 | v160 | v161 | v162 | v163 | v164 | v165 | v166 | v167 | v168 | v169 | v170 | v171 | v172 | v173 | v174 | v175 | v176 | v177=>k_is)
  (case v23 | v24 | v25 | v27 | v29 | v31 | v32 | v34 | v51 | v52 | v53 | v54 | v55 | v56 | v58=>walk_at "km")
  (case v86 | v87 | v88 | v89 | v90 | v91 | v92=>walk_at "ke")
  (case v93 | v94 | v95 | v96 | v97 | v98 | v99 | v100 | v101 | v102 | v103 | v104 | v105 | v106 | v107 | v108 | v109 | v110 | v111 | v112 | v113 | v114 | v115 | v116 | v117 | v118 | v119 | v120 | v121 | v122 | v123 | v124 | v125 | v126 | v127 | v129 | v130 | v137 | v138 | v139 | v140 | v141 | v142 | v143 | v144 | v145 | v146 | v147=>kernel_rfl)
